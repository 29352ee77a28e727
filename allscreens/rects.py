"""Rectangles: tuples (x, y, width, height) of numbers."""

from allscreens.errors import InvalidRect
from allscreens.integers import is_number


def is_rect(value):
    """Tell if the value is a rectangle."""
    if not isinstance(value, tuple) or len(value) != 4:
        return False
    if not all([is_number(number) for number in value]):
        return False
    return value[2] >= 0 and value[3] >= 0


def check_rect(value):
    """Raise InvalidRect if the value is not a rectangle."""
    if not is_rect(value):
        raise InvalidRect(value)


def overlap(*rects):
    """Return the rectangle of the points that all rectangles have, or None if there is no such point.

    The rectangles may be greater than valid ones, as those that frames move or mirror.
    """
    left = max([rect[0] for rect in rects])
    top = max([rect[1] for rect in rects])
    right = min([rect[0] + rect[2] for rect in rects])
    bottom = min([rect[1] + rect[3] for rect in rects])
    if left >= right or top >= bottom:
        return None
    return (left, top, right - left, bottom - top)


def common(rect, other_rect):
    """Return the rectangle of the points that both rectangles have, or None if there is no such point."""
    check_rect(rect)
    check_rect(other_rect)
    return overlap(rect, other_rect)
