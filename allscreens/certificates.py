"""Certificates of what scripts do, for the checker."""

from allscreens.comparing import parting, telling_cells
from allscreens.even import even_lists
from allscreens.links import linked_to, links_of
from allscreens.nodes import Nodes
from allscreens.recolouring import joined_colours
from allscreens.scripts import check_script
from allscreens.stages import check_cell, whole
from allscreens.undoing import check_no_keys
from allscreens.ways import number_at_end


def certify_alike(one, other):
    """Return a claim "alike" or "unlike" about two scripts, and its certificate."""
    found = parting(one, other)
    if found is not None:
        return (plain(("unlike", one.stage, one.strokes, other.strokes, *found)), None)
    covers = [cover_of(one.stage, surface, [one.strokes, other.strokes]) for surface, _, _ in one.stage]
    return (plain(("alike", one.stage, one.strokes, other.strokes)), plain(tuple(covers)))


def certify_cell(script, cell):
    """Return a claim "stays" or "changes" about a cell, and its certificate."""
    check_script(script)
    check_cell(script.stage, cell)
    nodes = Nodes()
    number = number_at_end(nodes, script.strokes, cell)
    unchanged = nodes.number_of(("cell", cell))
    if number != unchanged:
        cells = telling_cells(nodes, number, unchanged)
        return (plain(("changes", script.stage, script.strokes, cell, cells)), None)
    rect = (*cell[1:], 1, 1)
    return (plain(("stays", script.stage, script.strokes, cell[0], rect)), plain((rect,)))


def certify_loss(script, cell):
    """Return a claim "lost" or "kept" about a cell at the beginning, and its certificate."""
    check_script(script)
    check_cell(script.stage, cell)
    check_no_keys(script)
    links = links_of(script.stage, script.strokes)
    joined = joined_colours([link.pairs for _, link in linked_to(links, cell)])
    if joined is None:
        return (plain(("kept", script.stage, script.strokes, cell)), None)
    return (plain(("lost", script.stage, script.strokes, cell, *joined)), None)


def cover_of(stage, surface, scripts):
    """Return rectangles that have each cell of a surface once, and are even for some scripts together."""
    return tuple([rect for rects in even_lists(whole(stage, surface), surface, scripts) for rect in rects])


def plain(value):
    """Return a tuple, string, integer or None as Python's own: scripts may have values of classes derived from these.

    The checker does not take such values.
    """
    if isinstance(value, tuple):
        return tuple([plain(each) for each in value])
    if isinstance(value, str):
        return "".join(list(value))
    return None if value is None else int(value)
