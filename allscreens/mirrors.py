"""Maps of points that move them, and mirror them if needed."""

from allscreens.errors import InvalidNumber
from allscreens.integers import is_int
from allscreens.rects import check_rect


class Mirror:
    """A map of points: it moves each of the two numbers, or mirrors it and moves it then."""

    def __init__(self, x, y, *, across=False, down=False):
        for number in (x, y):
            if not is_int(number):
                raise InvalidNumber(number)
        self.x = x
        self.y = y
        self.across = across
        self.down = down

    def __call__(self, u, v):
        """Return the point to which (u, v) is taken."""
        return (
            self.x - u if self.across else self.x + u,
            self.y - v if self.down else self.y + v,
        )

    def image(self, rect):
        """Return the rectangle of the points to which the points of a rectangle are taken."""
        check_rect(rect)
        x, y, width, height = rect
        return (
            self.x - x - width + 1 if self.across else self.x + x,
            self.y - y - height + 1 if self.down else self.y + y,
            width,
            height,
        )

    def __mul__(self, other):
        return Mirror(
            self.x - other.x if self.across else self.x + other.x,
            self.y - other.y if self.down else self.y + other.y,
            across=self.across != other.across,
            down=self.down != other.down,
        )

    def __invert__(self):
        # Who mirrors twice is back where he was; who moves must move back.
        return Mirror(
            self.x if self.across else -self.x,
            self.y if self.down else -self.y,
            across=self.across,
            down=self.down,
        )

    def meets(self, other_mirror, rect):
        """Return the rectangle of the points of rect that both maps take to the same point, None without points."""
        check_rect(rect)
        x, y, width, height = rect
        columns = meeting((self.x, self.across), (other_mirror.x, other_mirror.across), x, width)
        rows = meeting((self.y, self.down), (other_mirror.y, other_mirror.down), y, height)
        if columns is None or rows is None:
            return None
        return (columns[0], rows[0], columns[1], rows[1])

    def __eq__(self, other):
        return isinstance(other, Mirror) and numbers_of(self) == numbers_of(other)

    def __repr__(self):
        return f"Mirror({spelled(self)})"


def numbers_of(mirror):
    """Return all that tells a map from others."""
    return (mirror.x, mirror.y, mirror.across, mirror.down)


def spelled(mirror):
    """Return what stands in the brackets of a map's repr."""
    words = [str(mirror.x), str(mirror.y)]
    if mirror.across:
        words.append("across")
    if mirror.down:
        words.append("down")
    return ", ".join(words)


def meeting(one, other, start, length):
    """Return the first one and the number of the places of a stretch that two maps of a line take to the same place.

    A map is a pair (shift, mirrored). Return None if there is no such place.
    """
    shift, mirrored = one
    other_shift, other_mirrored = other
    if mirrored == other_mirrored:
        return (start, length) if shift == other_shift and length > 0 else None
    # shift - place is other_shift + place, or the other way round.
    twice = shift - other_shift if mirrored else other_shift - shift
    place = twice // 2
    if twice % 2 == 0 and start <= place < start + length:
        return (place, 1)
    return None
