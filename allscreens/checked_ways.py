"""The ways back through strokes, as the checker goes them: from a cell, or from all cells of a rectangle at once.

A line (shift, turn) takes each number to shift + turn * number; the turn is 1 or -1. A way (surface, line, line) takes
the points of a rectangle to cells of a surface: the first line takes x, the second one y.
"""

AS_IT_IS = (0, 1)


def written_by(stroke):
    """Return the surface and the rectangle of the cells that a stroke writes."""
    if stroke[0] == "copy":
        return (stroke[3], (stroke[4], stroke[5], *stroke[2][2:]))
    return (stroke[1], stroke[2])


def has_cell(surface, rect, cell):
    """Tell if a rectangle of a surface has a cell."""
    name, x, y = cell
    left, top, width, height = rect
    return name == surface and left <= x < left + width and top <= y < top + height


def is_written(stroke, cell):
    """Tell if a stroke writes a cell."""
    surface, rect = written_by(stroke)
    return has_cell(surface, rect, cell)


def lines_back(stroke):
    """Return the two lines from what a "copy" writes to what it reads."""
    _, _, (x, y, width, height), _, to_x, to_y, mirror, _ = stroke
    across = (x + width - 1 + to_x, -1) if mirror in ("across", "both") else (x - to_x, 1)
    down = (y + height - 1 + to_y, -1) if mirror in ("down", "both") else (y - to_y, 1)
    return (across, down)


def taken(line, number):
    """Return the number to which a line takes another one."""
    return line[0] + line[1] * number


def taken_back(line, number):
    """Return the number that a line takes to another one."""
    return line[1] * (number - line[0])


def source_of(stroke, cell):
    """Return the cell that a "copy" reads for one that it writes."""
    across, down = lines_back(stroke)
    return (stroke[1], taken(across, cell[1]), taken(down, cell[2]))


def target_of(stroke, cell):
    """Return the cell that a "copy" writes from one that it reads."""
    across, down = lines_back(stroke)
    return (stroke[3], taken_back(across, cell[1]), taken_back(down, cell[2]))


def behind(line, inner):
    """Return the line that takes a number as the inner one does, and then as the other one does."""
    return (taken(line, inner[0]), line[1] * inner[1])


def part_inside(line, start, length, first, many):
    """Return how many of the numbers from start on the line takes to some of the numbers from first on."""
    ends = (taken(line, start), taken(line, start + length - 1))
    return max(0, min(max(ends), first + many - 1) - max(min(ends), first) + 1)


def part_written(stroke, way, rect):
    """Return for how many cells of a rectangle the way stands at a cell that the stroke writes."""
    surface, (x, y, width, height) = written_by(stroke)
    name, across, down = way
    if name != surface:
        return 0
    return part_inside(across, rect[0], rect[2], x, width) * part_inside(down, rect[1], rect[3], y, height)


def ways_behind(stroke, way):
    """Return the ways behind a stroke that writes the cells at which a way stands."""
    if stroke[0] == "fill":
        return []
    if stroke[0] == "recolour":
        return [way]
    across, down = lines_back(stroke)
    source = (stroke[1], behind(across, way[1]), behind(down, way[2]))
    return [source] if stroke[7] is None else [way, source]


def ways_back(strokes, surface, rect):
    """Return the ways from the cells of a rectangle to the beginning; None if they are not the same for all cells."""
    ways = [(surface, AS_IT_IS, AS_IT_IS)]
    for stroke in strokes[::-1]:
        found = []
        for way in ways:
            part = part_written(stroke, way, rect)
            if part not in (0, rect[2] * rect[3]):
                return None
            found.extend(ways_behind(stroke, way) if part > 0 else [way])
        ways = found
    return ways


def part_met(line, other, start, length):
    """Return how many of the numbers from start on two lines take to the same number."""
    if line[1] == other[1]:
        return length if line[0] == other[0] else 0
    # The sum of both lines does not depend on the number, so it is twice the place where they meet.
    twice = line[0] + other[0]
    at = taken_back(line, twice // 2)
    return 1 if twice % 2 == 0 and start <= at < start + length else 0


def meet_evenly(way, other, rect):
    """Tell if two ways stand at the same cell for all cells of a rectangle, or at different ones for all of them."""
    if way[0] != other[0]:
        return True
    part = part_met(way[1], other[1], rect[0], rect[2]) * part_met(way[2], other[2], rect[1], rect[3])
    return part in (0, rect[2] * rect[3])


def are_even(strokes, other_strokes, surface, rect):
    """Tell if a rectangle of a surface is even for two tuples of strokes, and also for their ways together."""
    ways = ways_back(strokes, surface, rect)
    others = ways_back(other_strokes, surface, rect)
    if ways is None or others is None:
        return False
    both = ways + others
    return all([meet_evenly(way, other, rect) for at, way in enumerate(both) for other in both[:at]])


def is_cover(rects, whole):
    """Tell if rectangles with points have each point of another one exactly once, and no other point."""
    # How many rectangles have a point is told for all points by the corners alone: each rectangle counts from its
    # first corner on, and from the corners beside and below it no more. So covers have the corners of the whole.
    counts = {}
    for (x, y, width, height), many in [(whole, -1), *[(rect, 1) for rect in rects]]:
        for corner, sign in (((x, y), 1), ((x + width, y), -1), ((x, y + height), -1), ((x + width, y + height), 1)):
            counts[corner] = counts.get(corner, 0) + sign * many
    return all([count == 0 for count in counts.values()])
