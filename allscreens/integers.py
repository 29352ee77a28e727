"""What counts as an integer, and as a number of an order or a rectangle."""

from allscreens.limits import MOST_SIZE


def is_int(value):
    """Tell if the value is an integer. For Python True and False are integers, too; here they are none."""
    return isinstance(value, int) and not isinstance(value, bool)


def is_between(value, least, most):
    """Tell if the value is an integer from least to most."""
    return is_int(value) and least <= value <= most


def is_number(value):
    """Tell if the value is a number of an order or a rectangle."""
    return is_between(value, -MOST_SIZE, MOST_SIZE)
