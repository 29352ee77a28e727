"""What counts as a colour."""

from allscreens.errors import InvalidColour
from allscreens.integers import is_between
from allscreens.limits import MOST_COLOUR


def is_colour(value):
    """Tell if the value is a colour."""
    return is_between(value, 0, MOST_COLOUR)


def check_colour(value):
    """Raise InvalidColour if the value is not a colour."""
    if not is_colour(value):
        raise InvalidColour(value)
