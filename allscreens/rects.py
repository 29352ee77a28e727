"""Rectangles: tuples (x, y, width, height) of numbers."""

from allscreens.errors import InvalidRect
from allscreens.integers import is_number


def is_rect(value):
    """Tell if the value is a rectangle."""
    if not isinstance(value, tuple) or len(value) != 4:
        return False
    if not all([is_number(number) for number in value]):
        return False
    return value[2] >= 0 and value[3] >= 0


def check_rect(value):
    """Raise InvalidRect if the value is not a rectangle."""
    if not is_rect(value):
        raise InvalidRect(value)


def common(rect, other_rect):
    """Return the rectangle of the points that both rectangles have, or None if there is no such point."""
    check_rect(rect)
    check_rect(other_rect)
    left = max(rect[0], other_rect[0])
    top = max(rect[1], other_rect[1])
    right = min(rect[0] + rect[2], other_rect[0] + other_rect[2])
    bottom = min(rect[1] + rect[3], other_rect[1] + other_rect[3])
    if left >= right or top >= bottom:
        return None
    return (left, top, right - left, bottom - top)
