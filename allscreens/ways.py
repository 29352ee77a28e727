"""The ways back from cells at the end, through the strokes, to the beginning."""

from allscreens.mirrors import Mirror
from allscreens.rects import overlap
from allscreens.stages import whole
from allscreens.strokes import back_of, source_of, target_of, writes


def number_at_end(nodes, strokes, cell, names=None):
    """Return the number of the reduced form of a cell at the end.

    With a dict of names, cells of the beginning are called by what it has for them; those that are new get the next
    number. So cells at different places, but with the same ways, have the same forms.
    """
    for index in reversed(range(len(strokes))):
        stroke = strokes[index]
        if not writes(stroke, cell):
            continue
        if stroke[0] == "fill":
            return nodes.number_of(("colour", stroke[3]))
        if stroke[0] == "recolour":
            return nodes.turned(number_at_end(nodes, strokes[:index], cell, names), stroke[3])
        source = source_of(stroke, cell)
        if stroke[7] is not None:
            read = number_at_end(nodes, strokes[:index], source, names)
            kept = number_at_end(nodes, strokes[:index], cell, names)
            return nodes.unless(read, stroke[7], kept)
        cell = source
    return nodes.number_of(("cell", cell if names is None else names.setdefault(cell, len(names))))


def split(rect, hit):
    """Return the parts of a rectangle, each of them in another one or without a point of it."""
    inner = overlap(rect, hit)
    if inner is None or inner == rect:
        return [rect]
    x, y, width, height = rect
    left, top, inner_width, inner_height = inner
    right = left + inner_width
    bottom = top + inner_height
    parts = [
        (x, y, width, top - y),
        (x, top, left - x, inner_height),
        inner,
        (right, top, x + width - right, inner_height),
        (x, bottom, width, y + height - bottom),
    ]
    return [part for part in parts if part[2] > 0 and part[3] > 0]


def ways_behind(rect, ways, hits, stroke):
    """Return the ways from the cells of a rectangle when they have gone back through a stroke.

    A way is a pair of a surface and the map from the cells to where it stands. Each of the hits is the rectangle of the
    cells whose way stands at one that the stroke writes, or None; it has all of the rectangle or nothing of it.
    """
    found = []
    for way, hit in zip(ways, hits):
        if hit is None or overlap(rect, hit) is None:
            found.append(way)
        elif stroke[0] == "recolour":
            found.append(way)
        elif stroke[0] == "copy":
            if stroke[7] is not None:
                found.append(way)
            found.append((stroke[1], back_of(stroke) * way[1]))
    return found


def back_through(rect, ways, stroke):
    """Return the parts of a rectangle as pairs (part, ways), whose ways go back through a stroke in the same manner."""
    surface, written = target_of(stroke)
    hits = [(~mirror).image(written) if name == surface else None for name, mirror in ways]
    parts = [rect]
    for hit in hits:
        if hit is not None:
            parts = [smaller for part in parts for smaller in split(part, hit)]
    return [(part, ways_behind(part, ways, hits, stroke)) for part in parts]


def even_parts(rect, name, strokes):
    """Return the parts of a rectangle of a surface as pairs (part, ways at the beginning).

    At each stroke a way from one cell of a part stands at a cell that is written exactly if those from the others do.
    """
    found = [(rect, [(name, Mirror(0, 0))])]
    for stroke in strokes[::-1]:
        found = [piece for part, ways in found for piece in back_through(part, ways, stroke)]
    return found


def parted_by_meetings(rect, ways):
    """Return the parts of a rectangle such that two ways stand at the same cell for all cells of a part or for none."""
    parts = [rect]
    for at, (name, mirror) in enumerate(ways):
        for other_name, other_mirror in ways[:at]:
            if name == other_name:
                met = [(part, mirror.meets(other_mirror, part)) for part in parts]
                parts = [
                    smaller for part, meeting in met
                    for smaller in ([part] if meeting is None else split(part, meeting))
                ]
    return parts


def even_rects(stage, name, scripts):
    """Return rectangles that have each cell of a surface once, and are even for each of some tuples of strokes.

    Also any two ways, whichever of these strokes they go through, stand at the same cell of the beginning for all cells
    of a rectangle or at different ones for all of them. So all cells of it have the same forms but for the cells there.
    """
    found = [(whole(stage, name), [])]
    for strokes in scripts:
        found = [
            (part, [*ways, *more])
            for rect, ways in found
            for part, more in even_parts(rect, name, strokes)
        ]
    return [part for rect, ways in found for part in parted_by_meetings(rect, ways)]
