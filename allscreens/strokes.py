"""Strokes: the orders of a script that is written out, cut to what they write."""

from allscreens.limits import MOST_SIZE
from allscreens.mirrors import Mirror
from allscreens.rects import overlap, overlap_of_all
from allscreens.stages import whole


def placed(orders, parts, mirror, limits):
    """Return the orders that some orders stand for, each as a tuple (order, mirror, limits).

    The mirror takes the points of the order to where they stand; of these only those in the limits are written.
    All of the orders, and those in the dict of parts, stand for at least one order.
    """
    found = []
    for order in orders:
        found.extend(placed_order(order, parts, mirror, limits))
    return found


def placed_order(order, parts, mirror, limits):
    """Return what one order stands for."""
    word = order[0]
    if word == "call":
        return placed(parts[order[1]], parts, mirror, limits)
    if word == "within":
        inside = overlap(limits, mirror.image(order[1]))
        return [] if inside is None else placed(order[2], parts, mirror, inside)
    if word == "repeat":
        return placed(order[2], parts, mirror, limits) * order[1]
    if word == "moved" or word == "mirrored":
        return placed(order[3], parts, mirror * frame_map(order), limits)
    return [(order, mirror, limits)]


def frame_map(order):
    """Return what "moved" or "mirrored" does to the points of the orders inside."""
    word, x, y, _ = order
    if word == "moved":
        return Mirror(x, y)
    return Mirror(0 if x is None else x, 0 if y is None else y, across=x is not None, down=y is not None)


def copy_map(source, target, word):
    """Return the map from the points of a copy's target to their sources, for two rectangles of the same size."""
    across = word == "across" or word == "both"
    down = word == "down" or word == "both"
    x, y, width, height = source
    return Mirror(
        x + width - 1 + target[0] if across else x - target[0],
        y + height - 1 + target[1] if down else y - target[1],
        across=across,
        down=down,
    )


def cut_order(stage, order, mirror, limits):
    """Return the stroke that comes of a "fill" or a "recolour", None if it writes no cell."""
    word, surface, rect, last = order
    written = overlap_of_all([mirror.image(rect), limits, whole(stage, surface)])
    return None if written is None else (word, surface, written, last)


def cut_copy(stage, order, mirror, limits):
    """Return the stroke that comes of a "copy", None if it writes no cell."""
    _, source, rect, surface, x, y, word, key = order
    target = mirror.image((x, y, rect[2], rect[3]))
    # Two maps of the same kind around a copy leave its MIRROR as it is.
    back = copy_map(mirror.image(rect), target, word)
    from_source = (~back).image(whole(stage, source))
    written = overlap_of_all([target, limits, whole(stage, surface), from_source])
    if written is None:
        return None
    return ("copy", source, back.image(written), surface, written[0], written[1], word, key)


def strokes_of(stage, orders, parts):
    """Return the tuple of the strokes; parts is a dict of the orders of the parts.

    All of these orders stand for at least one order, and together for few enough to be written out.
    """
    # A rectangle that has all cells of each surface.
    everywhere = (0, 0, MOST_SIZE, MOST_SIZE)
    found = []
    for order, mirror, limits in placed(orders, parts, Mirror(0, 0), everywhere):
        if order[0] == "copy":
            stroke = cut_copy(stage, order, mirror, limits)
        else:
            stroke = cut_order(stage, order, mirror, limits)
        if stroke is not None:
            found.append(stroke)
    return tuple(found)


def target_of(stroke):
    """Return the name of the surface and the rectangle of the cells that a stroke writes."""
    if stroke[0] == "copy":
        _, _, rect, surface, x, y, _, _ = stroke
        return (surface, (x, y, rect[2], rect[3]))
    return (stroke[1], stroke[2])


def writes(stroke, cell):
    """Tell if a stroke writes a cell; with a KEY: if it would, were the KEY no colour of a source."""
    surface, (left, top, width, height) = target_of(stroke)
    name, x, y = cell
    return name == surface and left <= x < left + width and top <= y < top + height


def back_of(stroke):
    """Return the map from the cells that a "copy" writes to their sources."""
    return copy_map(stroke[2], target_of(stroke)[1], stroke[6])


def source_of(stroke, cell):
    """Return the source of a cell that a "copy" writes."""
    _, x, y = cell
    back = back_of(stroke)
    return (stroke[1], *back(x, y))


def has_key(stroke):
    """Tell if a stroke is a "copy" with a KEY."""
    return stroke[0] == "copy" and stroke[7] is not None


def has_keys(strokes):
    """Tell if one of the strokes is a "copy" with a KEY."""
    return any([has_key(stroke) for stroke in strokes])
