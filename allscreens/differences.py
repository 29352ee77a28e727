"""Cells at which two tuples of strokes differ: to which they give different reduced forms."""

from allscreens.even import even_lists, first_cell, rects_to_compare
from allscreens.nodes import Nodes
from allscreens.regions import region_of_rects
from allscreens.stages import whole
from allscreens.ways import number_at_end


def unlike_lists(stage, surface, strokes, other_strokes):
    """Yield lists of rectangles, which have all cells of a surface at which two tuples of strokes differ."""
    nodes = Nodes()
    for rect in rects_to_compare(whole(stage, surface), surface, strokes, other_strokes):
        for rects in even_lists(rect, surface, [strokes, other_strokes]):
            cell = first_cell(surface, rects)
            names = {}
            number = number_at_end(nodes, strokes, cell, names)
            if number != number_at_end(nodes, other_strokes, cell, names):
                yield rects


def unlike_cell(stage, strokes, other_strokes):
    """Return a cell at which two tuples of strokes differ, None if there is none."""
    for surface, _, _ in stage:
        for rects in unlike_lists(stage, surface, strokes, other_strokes):
            return first_cell(surface, rects)
    return None


def unlike_region(stage, surface, strokes, other_strokes):
    """Return the region of the cells of a surface at which two tuples of strokes differ."""
    return region_of_rects([
        rect
        for rects in unlike_lists(stage, surface, strokes, other_strokes)
        for rect in rects
    ])


def changes_between(stage, strokes, other_strokes):
    """Return pairs (name, region) of the cells at which two tuples of strokes differ, for surfaces with such cells."""
    found = [(name, unlike_region(stage, name, strokes, other_strokes)) for name, _, _ in stage]
    return tuple([(name, region) for name, region in found if len(region) > 0])
