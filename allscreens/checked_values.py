"""What values count as for the checker, which shares no code with what it checks."""

from allscreens.limits import (
    MOST_COLOUR, MOST_COPIES, MOST_KEYS, MOST_ORDERS, MOST_PAIRS, MOST_RECOLOURS, MOST_SIZE, MOST_SURFACES,
)

MOST_LETTERS = 8
MIRRORS = ("none", "across", "down", "both")

# Integers, strings and tuples are taken only if they are Python's own. Values of classes derived from these could
# compare as they like, and True is an integer for Python.


def is_int(value):
    """Tell if the value is an integer."""
    return type(value) == int


def is_string(value):
    """Tell if the value is a string."""
    return type(value) == str


def is_tuple(value):
    """Tell if the value is a tuple."""
    return type(value) == tuple


def is_between(value, least, most):
    """Tell if the value is an integer from least to most."""
    return is_int(value) and least <= value <= most


def is_tuple_of(value, length):
    """Tell if the value is a tuple of this length."""
    return is_tuple(value) and len(value) == length


def ascends(values):
    """Tell if each value is greater than the one before it."""
    return all([value < later for value, later in zip(values, values[1:])])


def is_name(value):
    """Tell if the value is a name."""
    if not is_string(value) or not 1 <= len(value) <= MOST_LETTERS:
        return False
    return all(["a" <= letter <= "z" for letter in value])


def is_surface(value):
    """Tell if the value is a surface of some stage."""
    if not is_tuple_of(value, 3) or not is_name(value[0]):
        return False
    return is_between(value[1], 1, MOST_SIZE) and is_between(value[2], 1, MOST_SIZE)


def is_stage(value):
    """Tell if the value is a stage."""
    if not is_tuple(value) or not 1 <= len(value) <= MOST_SURFACES:
        return False
    return all([is_surface(surface) for surface in value]) and ascends([surface[0] for surface in value])


def size_of(stage, value):
    """Return the size of the surface with a name, None if the value is no name of a surface of the stage."""
    if not is_name(value):
        return None
    sizes = [(width, height) for name, width, height in stage if name == value]
    return sizes[0] if sizes else None


def is_colour(value):
    """Tell if the value is a colour."""
    return is_between(value, 0, MOST_COLOUR)


def is_cell(stage, value):
    """Tell if the value is a cell of the stage."""
    if not is_tuple_of(value, 3):
        return False
    size = size_of(stage, value[0])
    if size is None:
        return False
    return is_between(value[1], 0, size[0] - 1) and is_between(value[2], 0, size[1] - 1)


def is_filled_rect(value):
    """Tell if the value is a rectangle with a point."""
    if not is_tuple_of(value, 4):
        return False
    places = all([is_between(number, -MOST_SIZE, MOST_SIZE) for number in value[:2]])
    return places and all([is_between(number, 1, MOST_SIZE) for number in value[2:]])


def are_cells(stage, surface, value):
    """Tell if the value is a rectangle with a point, all of whose points are cells of the surface with this name."""
    size = size_of(stage, surface)
    if size is None or not is_filled_rect(value):
        return False
    x, y, width, height = value
    return x >= 0 and y >= 0 and x + width <= size[0] and y + height <= size[1]


def is_pair(value):
    """Tell if the value is a pair of colours."""
    return is_tuple_of(value, 2) and is_colour(value[0]) and is_colour(value[1])


def is_pairs(value):
    """Tell if the value is the PAIRS of a "recolour"."""
    if not is_tuple(value) or len(value) > MOST_PAIRS or not all([is_pair(pair) for pair in value]):
        return False
    return ascends([pair[0] for pair in value])


def is_copy(stage, value):
    """Tell if a tuple of the length of a "copy" is a stroke."""
    _, source, rect, surface, x, y, mirror, key = value
    if not are_cells(stage, source, rect) or not are_cells(stage, surface, (x, y, rect[2], rect[3])):
        return False
    if not is_string(mirror) or mirror not in MIRRORS:
        return False
    return key is None or is_colour(key)


def is_stroke(stage, value):
    """Tell if the value is an order that is cut to what it writes, which is at least one cell."""
    if not is_tuple(value) or len(value) not in (4, 8) or not is_string(value[0]):
        return False
    word = value[0]
    if len(value) == 8:
        return word == "copy" and is_copy(stage, value)
    if not are_cells(stage, value[1], value[2]):
        return False
    return (word == "fill" and is_colour(value[3])) or (word == "recolour" and is_pairs(value[3]))


def has_key(stroke):
    """Tell if a stroke is a "copy" with a KEY."""
    return stroke[0] == "copy" and stroke[7] is not None


def are_strokes(stage, value):
    """Tell if the value is the strokes of a script for the stage."""
    if not is_tuple(value) or len(value) > MOST_ORDERS or not all([is_stroke(stage, each) for each in value]):
        return False
    words = [stroke[0] for stroke in value]
    keys = [stroke for stroke in value if has_key(stroke)]
    return words.count("copy") <= MOST_COPIES and len(keys) <= MOST_KEYS and words.count("recolour") <= MOST_RECOLOURS


def are_keyless(stage, value):
    """Tell if the value is the strokes of a script for the stage, without a KEY."""
    return are_strokes(stage, value) and not any([has_key(stroke) for stroke in value])


def is_told_cell(stage, value):
    """Tell if the value is a pair of a cell and a colour."""
    return is_tuple_of(value, 2) and is_cell(stage, value[0]) and is_colour(value[1])


def are_told_cells(stage, value):
    """Tell if the value is an ascending tuple of pairs of a cell and a colour, with different cells."""
    if not is_tuple(value) or not all([is_told_cell(stage, pair) for pair in value]):
        return False
    return ascends([pair[0] for pair in value])
