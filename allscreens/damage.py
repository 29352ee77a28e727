"""Damage and needs: what a script can change, and on what its result depends."""

from allscreens.differences import unlike_region
from allscreens.even import even_groups, first_cell
from allscreens.nodes import Nodes
from allscreens.regions import region_of_rects
from allscreens.scripts import check_script
from allscreens.stages import check_surface, whole
from allscreens.ways import number_at_end


def damage(script, surface):
    """Return the region of the cells of a surface that end with another colour, for some picture."""
    check_script(script)
    check_surface(script.stage, surface)
    return unlike_region(script.stage, surface, script.strokes, ())


def needs(script, surface):
    """Return the region of the cells of a surface on which the end depends."""
    check_script(script)
    check_surface(script.stage, surface)
    nodes = Nodes()
    found = []
    for name, _, _ in script.stage:
        for ways, rects in even_groups(whole(script.stage, name), name, [script.strokes]):
            cell = first_cell(name, rects)
            mirrors = needed_mirrors(nodes, script.strokes, cell, ways)
            found.extend([mirror.image(rect) for source, mirror in mirrors if source == surface for rect in rects])
    return region_of_rects(found)


def needed_mirrors(nodes, strokes, cell, ways):
    """Return those of the ways back from a cell that come to cells on which its colour at the end depends."""
    names = {}
    number = number_at_end(nodes, strokes, cell, names)
    # A reduced form has no cell in it on which its value does not depend.
    needed = nodes.cells_in(number)
    places = [place for place, called in names.items() if called in needed]
    _, x, y = cell
    return [(source, mirror) for source, mirror in ways if (source, *mirror(x, y)) in places]
