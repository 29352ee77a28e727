"""Rectangles of cells from which the ways back through strokes are the same.

A way is a pair of a surface and the map from the cells of some rectangles to where it stands. A group is a pair of a
list of ways and a list of rectangles, the cells of which have these ways and have come to them in the same manner.
"""

from allscreens.mirrors import Mirror
from allscreens.rects import overlap
from allscreens.spans import bands_of, rects_of
from allscreens.strokes import back_of, target_of


def split(rect, window):
    """Return the parts of a rectangle, each of them in another one or without a point of it."""
    inner = overlap(rect, window)
    if inner is None or inner == rect:
        return [rect]
    x, y, width, height = rect
    left, top, inner_width, inner_height = inner
    right = left + inner_width
    bottom = top + inner_height
    parts = [
        (x, y, width, top - y),
        (x, top, left - x, inner_height),
        inner,
        (right, top, x + width - right, inner_height),
        (x, bottom, width, y + height - bottom),
    ]
    return [part for part in parts if part[2] > 0 and part[3] > 0]


def lies_in(part, window):
    """Tell if a part of a rectangle that was split by a window lies in it."""
    return window[0] <= part[0] < window[0] + window[2] and window[1] <= part[1] < window[1] + window[3]


def windows_of(ways, stroke):
    """Return for each way the rectangle of the cells whose way stands at one that the stroke writes, or None."""
    surface, written = target_of(stroke)
    return [(~mirror).image(written) if name == surface else None for name, mirror in ways]


def ways_behind(ways, hits, stroke):
    """Return the ways that have gone back through a stroke; the hits tell of each if it stands at a written cell."""
    found = []
    for way, hit in zip(ways, hits):
        if not hit or stroke[0] == "recolour":
            found.append(way)
        elif stroke[0] == "copy":
            if stroke[7] is not None:
                found.append(way)
            found.append((stroke[1], back_of(stroke) * way[1]))
    return found


def back_through(ways, marked, stroke):
    """Return the groups that a group becomes when its ways go back through a stroke.

    Here, and where groups are passed on, the rectangles are marked: pairs (rectangle, mark), and all parts of one keep
    its mark.
    """
    windows = windows_of(ways, stroke)
    parts = marked
    for window in windows:
        if window is not None:
            parts = [(smaller, mark) for part, mark in parts for smaller in split(part, window)]
    found = {}
    for part, mark in parts:
        hits = tuple([window is not None and lies_in(part, window) for window in windows])
        found.setdefault(hits, []).append((part, mark))
    return [(ways_behind(ways, hits, stroke), found[hits]) for hits in found]


def groups_behind(marked, name, strokes):
    """Return the groups with marked rectangles for those of a surface and the ways at the beginning."""
    groups = [([(name, Mirror(0, 0))], marked)]
    for stroke in strokes[::-1]:
        groups = [group for ways, parts in groups for group in back_through(ways, parts, stroke)]
    return groups


def by_marks(marked):
    """Return a dict of the rectangles with each mark."""
    found = {}
    for rect, mark in marked:
        found.setdefault(mark, []).append(rect)
    return found


def groups_behind_all(everything, name, scripts):
    """Return the groups for the ways through several scripts, all ways in one list."""
    groups = [([], [everything])]
    for strokes in scripts:
        marked = [(rect, mark) for mark, (_, rects) in enumerate(groups) for rect in rects]
        groups = [
            ([*groups[mark][0], *ways], rects)
            for ways, parts in groups_behind(marked, name, strokes)
            for mark, rects in by_marks(parts).items()
        ]
    return groups


def inside_and_outside(rects, window):
    """Return two lists with the parts of rectangles inside and outside of another one, or one list if one is empty."""
    parts = [smaller for rect in rects for smaller in split(rect, window)]
    inside = [part for part in parts if lies_in(part, window)]
    outside = [part for part in parts if not lies_in(part, window)]
    return [found for found in (inside, outside) if found]


def parted_by_meetings(ways, rects, everything):
    """Return the lists of rectangles that a group becomes, where two ways meet for all cells of a list or for none."""
    lists = [rects]
    for at, (name, mirror) in enumerate(ways):
        for other_name, other_mirror in ways[:at]:
            met = mirror.meets(other_mirror, everything) if name == other_name else None
            if met is not None and met != everything:
                lists = [part for found in lists for part in inside_and_outside(found, met)]
    return lists


def even_groups(everything, name, scripts):
    """Return groups whose rectangles have, all together, each point of a rectangle of a surface once.

    Each rectangle is even for each of the scripts, which are tuples of strokes. Also any two ways of a group, whichever
    of the scripts they go through, stand at the same cell of the beginning for all cells of the group or at different
    ones for all of them. So all cells of a group have the same forms, but for the cells in these.
    """
    return [
        (ways, rects)
        for ways, found in groups_behind_all(everything, name, scripts)
        for rects in parted_by_meetings(ways, found, everything)
    ]


def even_lists(everything, name, scripts):
    """Return the lists of rectangles of the groups, without their ways."""
    return [rects for _, rects in even_groups(everything, name, scripts)]


def first_cell(name, rects):
    """Return the first cell of a list of rectangles of a surface."""
    return (name, rects[0][0], rects[0][1])


def same_at_start(strokes, other_strokes):
    """Return how many strokes two tuples have in common at their start."""
    many = 0
    while many < min(len(strokes), len(other_strokes)) and strokes[many] == other_strokes[many]:
        many += 1
    return many


def rects_to_compare(everything, name, strokes, other_strokes):
    """Return rectangles of a surface beside which two tuples of strokes give each cell the same form.

    The ways that come to a stroke that only one of the two has there, behind what is the same in both, start in them.
    """
    last = same_at_start(strokes[::-1], other_strokes[::-1])
    one, other = strokes[:len(strokes) - last], other_strokes[:len(other_strokes) - last]
    first = same_at_start(one, other)
    found = []
    for ways, marked in groups_behind([(everything, 0)], name, strokes[len(one):]):
        windows = [window for stroke in one[first:] + other[first:] for window in windows_of(ways, stroke)]
        for rect, _ in marked:
            parts = [overlap(rect, window) for window in windows if window is not None]
            found.extend(rects_of(bands_of([part for part in parts if part is not None])))
    return found
