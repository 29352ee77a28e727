"""Rectangles: tuples (x, y, width, height) of numbers."""

from allscreens.errors import InvalidRect
from allscreens.integers import is_number


def is_rect(value):
    """Tell if the value is a rectangle."""
    if not isinstance(value, tuple) or len(value) != 4:
        return False
    if not all([is_number(number) for number in value]):
        return False
    return value[2] >= 0 and value[3] >= 0


def check_rect(value):
    """Raise InvalidRect if the value is not a rectangle."""
    if not is_rect(value):
        raise InvalidRect(value)


def overlap(first, second):
    """Return the rectangle of the points that both rectangles have, or None if there is no such point.

    The rectangles may be greater than valid ones, as those that frames move or mirror.
    """
    x, y, width, height = first
    other_x, other_y, other_width, other_height = second
    left = max(x, other_x)
    top = max(y, other_y)
    right = min(x + width, other_x + other_width)
    bottom = min(y + height, other_y + other_height)
    if left >= right or top >= bottom:
        return None
    return (left, top, right - left, bottom - top)


def overlap_of_all(rects):
    """Return the rectangle of the points that all rectangles have, or None if there is no such point."""
    found = rects[0]
    for rect in rects:
        found = overlap(found, rect)
        if found is None:
            return None
    return found


def common(rect, other_rect):
    """Return the rectangle of the points that both rectangles have, or None if there is no such point."""
    check_rect(rect)
    check_rect(other_rect)
    return overlap(rect, other_rect)
