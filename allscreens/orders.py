"""Orders: what counts as one."""

from allscreens.colours import is_colour
from allscreens.integers import is_between, is_number
from allscreens.limits import MOST_LEVELS, MOST_PAIRS, MOST_REPEAT
from allscreens.rects import is_rect
from allscreens.recolouring import is_pairs
from allscreens.stages import has_surface

MIRRORS = ("none", "across", "down", "both")

# The words of the orders that have other orders inside of them. Those stand last in the tuple.
FRAMES = ("within", "moved", "mirrored", "repeat")


def is_fill(stage, value):
    """Tell if a tuple that begins with "fill" is an order."""
    return len(value) == 4 and has_surface(stage, value[1]) and is_rect(value[2]) and is_colour(value[3])


def is_recolour(stage, value):
    """Tell if a tuple that begins with "recolour" is an order."""
    if len(value) != 4 or not has_surface(stage, value[1]) or not is_rect(value[2]):
        return False
    return is_pairs(value[3]) and len(value[3]) <= MOST_PAIRS


def is_copy(stage, value):
    """Tell if a tuple that begins with "copy" is an order."""
    if len(value) != 8:
        return False
    _, source, rect, surface, x, y, mirror, key = value
    if not has_surface(stage, source) or not is_rect(rect) or not has_surface(stage, surface):
        return False
    if not is_number(x) or not is_number(y) or not isinstance(mirror, str) or mirror not in MIRRORS:
        return False
    return key is None or is_colour(key)


def is_place(value):
    """Tell if the value is a number or None."""
    return value is None or is_number(value)


def is_frame(value):
    """Tell if a tuple that begins with a word of FRAMES is an order, whatever is in its tuple of orders."""
    if not isinstance(value[-1], tuple):
        return False
    word = value[0]
    if word == "within":
        return len(value) == 3 and is_rect(value[1])
    if word == "repeat":
        return len(value) == 3 and is_between(value[1], 0, MOST_REPEAT)
    if len(value) != 4:
        return False
    if word == "moved":
        return is_number(value[1]) and is_number(value[2])
    return is_place(value[1]) and is_place(value[2])


def is_call(value, names):
    """Tell if a tuple that begins with "call" is an order, where the parts with these names may be called."""
    return len(value) == 2 and isinstance(value[1], str) and value[1] in names


def is_single_order(stage, value, names):
    """Tell if the value is an order, whatever is in its tuple of orders, where these parts may be called."""
    if not isinstance(value, tuple) or len(value) == 0 or not isinstance(value[0], str):
        return False
    word = value[0]
    if word == "fill":
        return is_fill(stage, value)
    if word == "recolour":
        return is_recolour(stage, value)
    if word == "copy":
        return is_copy(stage, value)
    if word == "call":
        return is_call(value, names)
    return word in FRAMES and is_frame(value)


def wrong_path(stage, orders, names, level=1):
    """Return the path of the first one in a tuple of orders that is not an order, None if there is none.

    The stage is valid, the parts with these names may be called, and the orders stand on this level.
    """
    for index, order in enumerate(orders):
        if level > MOST_LEVELS or not is_single_order(stage, order, names):
            return (index,)
        if order[0] in FRAMES:
            path = wrong_path(stage, order[-1], names, level + 1)
            if path is not None:
                return (index, *path)
    return None
