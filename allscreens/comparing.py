"""Comparing scripts by what they do to all pictures."""

from allscreens.differences import unlike_cell
from allscreens.nodes import Nodes
from allscreens.scripts import check_script
from allscreens.stages import check_same_stage
from allscreens.ways import number_at_end


def alike(one, other):
    """Tell if the scripts are alike."""
    check_scripts(one, other)
    return unlike_cell(one.stage, one.strokes, other.strokes) is None


def parting(one, other):
    """Return None if the scripts are alike, otherwise a pair (cell, cells).

    For the picture that Picture.of_cells makes of the cells, the scripts end with different colours in the cell.
    """
    check_scripts(one, other)
    cell = unlike_cell(one.stage, one.strokes, other.strokes)
    if cell is None:
        return None
    nodes = Nodes()
    number = number_at_end(nodes, one.strokes, cell)
    other_number = number_at_end(nodes, other.strokes, cell)
    return (cell, telling_cells(nodes, number, other_number))


def commute(one, other):
    """Tell if the scripts are alike in either turn."""
    check_scripts(one, other)
    return alike(one + other, other + one)


def is_idempotent(script):
    """Tell if the script twice is alike to the script once."""
    check_script(script)
    return alike(script + script, script)


def idle(script):
    """Return the ascending tuple of the indexes of the strokes without which the others are alike to the script."""
    check_script(script)
    strokes = script.strokes
    return tuple([
        index for index in range(len(strokes))
        if unlike_cell(script.stage, strokes, strokes[:index] + strokes[index + 1:]) is None
    ])


def check_scripts(one, other):
    """Raise the errors of two scripts that are passed together."""
    check_script(one)
    check_script(other)
    check_same_stage(one.stage, other.stage)


def telling_cells(nodes, number, other_number):
    """Return the ascending tuple of pairs of a cell and a colour for which two different reduced forms differ."""
    cells = sorted(set([*nodes.cells_in(number), *nodes.cells_in(other_number)]))
    named = sorted(set([*nodes.colours_in(number), *nodes.colours_in(other_number)]))
    chosen = {}
    for cell in cells:
        colour = telling_colour(nodes, number, other_number, cell)
        if colour is None:
            number, other_number = nodes.rest(number, cell), nodes.rest(other_number, cell)
        else:
            chosen[cell] = colour
            number, other_number = nodes.put(number, cell, colour), nodes.put(other_number, cell, colour)
    # What is left differs if the other cells have colours that the forms do not name, each one another.
    free = [colour for colour in range(len(named) + len(cells)) if colour not in named]
    return tuple([(cell, chosen.get(cell, free[at])) for at, cell in enumerate(cells)])


def telling_colour(nodes, number, other_number, cell):
    """Return a colour for which one of two reduced forms asks first, and for which they differ; None without one."""
    asked = [*nodes.colours_asked(number, cell), *nodes.colours_asked(other_number, cell)]
    found = [colour for colour in asked if nodes.put(number, cell, colour) != nodes.put(other_number, cell, colour)]
    return found[0] if found else None
