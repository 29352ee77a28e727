"""Stages: tuples of surfaces (name, width, height)."""

from allscreens.errors import DifferentStages, InvalidCell, InvalidStage, InvalidSurface
from allscreens.integers import is_between
from allscreens.limits import MOST_SIZE, MOST_SURFACES

MOST_LETTERS = 8


def is_name(value):
    """Tell if the value is a name."""
    if not isinstance(value, str) or not 1 <= len(value) <= MOST_LETTERS:
        return False
    return all(["a" <= letter <= "z" for letter in value])


def is_surface(value):
    """Tell if the value is a surface, whatever stage it may belong to."""
    if not isinstance(value, tuple) or len(value) != 3:
        return False
    name, width, height = value
    return is_name(name) and is_between(width, 1, MOST_SIZE) and is_between(height, 1, MOST_SIZE)


def is_stage(value):
    """Tell if the value is a stage."""
    if not isinstance(value, tuple) or not 1 <= len(value) <= MOST_SURFACES:
        return False
    if not all([is_surface(surface) for surface in value]):
        return False
    names = [surface[0] for surface in value]
    return all([name < later for name, later in zip(names, names[1:])])


def check_stage(value):
    """Raise InvalidStage if the value is not a stage."""
    if not is_stage(value):
        raise InvalidStage(value)


def has_surface(stage, value):
    """Tell if the value is the name of a surface of a stage, which is valid."""
    return isinstance(value, str) and value in [surface[0] for surface in stage]


def check_surface(stage, value):
    """Raise InvalidSurface if the value is not the name of a surface of a stage, which is valid."""
    if not has_surface(stage, value):
        raise InvalidSurface(value)


def size_of(stage, name):
    """Return the width and the height of the surface with this name, which the stage has."""
    sizes = {surface[0]: surface[1:] for surface in stage}
    return sizes[name]


def whole(stage, name):
    """Return the rectangle of all cells of the surface with this name, which the stage has."""
    width, height = size_of(stage, name)
    return (0, 0, width, height)


def is_cell(stage, value):
    """Tell if the value is a cell of a stage, which is valid."""
    if not isinstance(value, tuple) or len(value) != 3:
        return False
    name, x, y = value
    if not has_surface(stage, name):
        return False
    width, height = size_of(stage, name)
    return is_between(x, 0, width - 1) and is_between(y, 0, height - 1)


def check_cell(stage, value):
    """Raise InvalidCell if the value is not a cell of a stage, which is valid."""
    if not is_cell(stage, value):
        raise InvalidCell(value)


def check_same_stage(first, second):
    """Raise DifferentStages if two stages, which are valid, are different."""
    if first != second:
        raise DifferentStages()
