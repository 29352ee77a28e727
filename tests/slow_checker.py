"""What the checker is to accept, found cell by cell: the tests compare the program with this."""

import itertools

import slow_forms
from helpers import points_of
from test_even import told_of


def is_cover(cover, points):
    found = [point for rect in cover for point in points_of(rect)]
    return all(min(rect[2:]) > 0 for rect in cover) and sorted(found) == sorted(points)


def covers_alike(one, other, surface, points, cover):
    """Tell if a cover of points of a surface shows that both strokes give them the same forms."""
    if not is_cover(cover, points):
        return False
    for rect in cover:
        cells = [(surface, *point) for point in sorted(points_of(rect))]
        found = [told_of((one, other), cell) for cell in cells]
        if found != found[:1] * len(found) or not all(slow_forms.same_ends(one, other, cell) for cell in cells):
            return False
    return True


def shows_alike(stage, one, other, covers):
    return len(covers) == len(stage) and all(
        covers_alike(one, other, name, points_of((0, 0, width, height)), cover)
        for (name, width, height), cover in zip(stage, covers)
    )


def split(source, rect, times):
    """A cover of a rectangle, made by cutting it this often, if there is something to cut."""
    rects = [rect]
    for _ in range(times):
        rects = cut_one(source, rects)
    source.shuffle(rects)
    return tuple(rects)


def cut_one(source, rects):
    x, y, width, height = rect = source.choice(rects)
    others = list(rects)
    others.remove(rect)
    if width > 1 and (height == 1 or source.randrange(2)):
        at = source.randrange(1, width)
        return others + [(x, y, at, height), (x + at, y, width - at, height)]
    if height > 1:
        at = source.randrange(1, height)
        return others + [(x, y, width, at), (x, y + at, width, height - at)]
    return rects


def singles(width, height):
    return tuple((x, y, 1, 1) for x, y in itertools.product(range(width), range(height)))


def spoilt_covers(source, cover):
    """Covers that have a point too much or too few, or twice."""
    at = source.randrange(len(cover))
    x, y, width, height = rect = cover[at]
    others = cover[:at] + cover[at + 1:]
    found = [others, cover + (rect,), others + ((x, y, 0, height),), cover + ((x, y, width, 0),), cover + ((0, 0, 0, 0),)]
    for changed in (
        (x + 1, y, width, height), (x - 1, y, width, height), (x, y + 1, width, height), (x, y - 1, width, height),
        (x, y, width + 1, height), (x, y, width, height + 1), (x - 1, y, width + 1, height), (x, y, width - 1, height),
        (x, y, width, height - 1), (x + width, y, -width, height), (x, y + height, width, -height),
    ):
        found.append(others + (changed,))
    # As many points as before, and the corners of two that are put in each other's place.
    found.append(others + ((x + 1, y, width, height), (x - 1, y, 1, height)))
    found.append(cover + ((x, y, width, height), (x, y, width, height)))
    return found
