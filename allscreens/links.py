"""Links: how, without KEYs, the colours of cells at the end come from those at the beginning."""

from allscreens.even import even_groups, first_cell
from allscreens.recolouring import combined, recoloured
from allscreens.stages import whole
from allscreens.strokes import source_of, writes


class Link:
    """Cells at the end that get their colours alike.

    They are the cells of rectangles of a surface. Their colours are those of cells of a source at the beginning, to
    which the mirror takes them, recoloured by pairs. If a "fill" gives them their colour, the source is None.
    """

    def __init__(self, surface, ends, source, mirror, pairs, colour):
        self.surface = surface
        self.ends = ends
        self.source = source
        self.mirror = mirror
        self.pairs = pairs
        self.colour = colour

    def images(self):
        """Return the rectangles of the source to which the mirror takes the cells."""
        return [self.mirror.image(rect) for rect in self.ends]


def links_of(stage, strokes):
    """Return links that have, all together, each cell of the end once; the strokes have no KEY."""
    return [
        link_of(strokes, surface, ways, rects)
        for surface, _, _ in stage
        for ways, rects in even_groups(whole(stage, surface), surface, [strokes])
    ]


def link_of(strokes, surface, ways, rects):
    """Return the link of a group of a surface."""
    pairs, colour = read_back(strokes, first_cell(surface, rects))
    if not ways:
        return Link(surface, rects, None, None, pairs, recoloured(colour, pairs))
    source, mirror = ways[0]
    return Link(surface, rects, source, mirror, pairs, None)


def read_back(strokes, cell):
    """Return the pairs by which a cell is recoloured, and the colour of the "fill" before that, None without one."""
    pairs = ()
    for stroke in strokes[::-1]:
        if not writes(stroke, cell):
            continue
        if stroke[0] == "fill":
            return (pairs, stroke[3])
        if stroke[0] == "recolour":
            pairs = combined(stroke[3], pairs)
        else:
            cell = source_of(stroke, cell)
    return (pairs, None)


def linked_to(links, cell):
    """Return pairs of a cell at the end and a link, for the cells that get the colour of a cell at the beginning."""
    source, x, y = cell
    found = []
    for link in links:
        if link.source == source:
            back = ~link.mirror
            end = back(x, y)
            if has_point(link.ends, end):
                found.append(((link.surface, *end), link))
    return found


def has_point(rects, point):
    """Tell if one of some rectangles has a point."""
    x, y = point
    return any([left <= x < left + width and top <= y < top + height for left, top, width, height in rects])


def regions_by_pairs(links, source):
    """Return a dict of the rectangles of a surface at the beginning, for each of the pairs with which it is read."""
    found = {}
    for link in links:
        if link.source == source:
            found.setdefault(link.pairs, []).extend(link.images())
    return found
