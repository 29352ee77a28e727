"""Undoing scripts: what is lost of the beginning, and how to get it back."""

from allscreens.choices import choices_for, first_ones, in_both, narrowed_by_all, place_without_choice, turning_into
from allscreens.errors import NoBeginning, UsesKeys
from allscreens.links import linked_to, links_of, regions_by_pairs
from allscreens.painting import painted
from allscreens.pictures import check_picture, picture_of, sheets_of
from allscreens.recolouring import keeps_apart
from allscreens.regions import Region, region_of_rects
from allscreens.scripts import check_script
from allscreens.sheets import cut, filled, laid, laid_in_turn, taken
from allscreens.stages import check_same_stage, check_surface, whole
from allscreens.strokes import has_keys


def loss(script, surface):
    """Return the region of the lost cells of a surface."""
    check_script(script)
    check_surface(script.stage, surface)
    check_no_keys(script)
    return lost_region(script.stage, links_of(script.stage, script.strokes), surface)


def restored(script, end, saved):
    """Return the picture at the beginning that leads to the end, and has the saved colours in all lost cells."""
    check_script(script)
    check_picture(end)
    check_picture(saved)
    check_same_stage(script.stage, end.stage)
    check_same_stage(script.stage, saved.stage)
    check_no_keys(script)
    links = links_of(script.stage, script.strokes)
    # In cells that are not lost only one colour leads to the end: whatever is chosen for these is right.
    chosen = picture_of(script.stage, {
        name: with_saved(sheet, sheets_of(saved)[name], lost_region(script.stage, links, name))
        for name, sheet in chosen_sheets(script.stage, links, end).items()
    })
    if painted(script.strokes, chosen) != end:
        raise NoBeginning()
    return chosen


def beginning(script, end):
    """Return a picture that leads to the end, None if there is none."""
    check_with_end(script, end)
    links = links_of(script.stage, script.strokes)
    chosen = picture_of(script.stage, chosen_sheets(script.stage, links, end))
    return chosen if painted(script.strokes, chosen) == end else None


def barred(script, end):
    """Return None if some picture leads to the end, otherwise cells of it to whose colours no picture leads."""
    check_with_end(script, end)
    links = links_of(script.stage, script.strokes)
    cell = unlike_fill(links, end)
    if cell is not None:
        return (cell,)
    for name, choices in choices_at_beginning(script.stage, links, end).items():
        place = place_without_choice(choices)
        if place is not None:
            return barring_cells(links, end, (name, *place))
    return None


def check_no_keys(script):
    """Raise UsesKeys if a stroke of a script has a KEY."""
    if has_keys(script.strokes):
        raise UsesKeys()


def check_with_end(script, end):
    """Raise the errors of a script without KEYs and a picture at its end."""
    check_script(script)
    check_picture(end)
    check_same_stage(script.stage, end.stage)
    check_no_keys(script)


def lost_region(stage, links, surface):
    """Return the region of the lost cells of a surface."""
    # Pairs of tables by which cells are read and the region of these cells, as far as they are lost until now.
    lost = [((), Region(whole(stage, surface)))]
    for table, rects in regions_by_pairs(links, surface).items():
        region = region_of_rects(rects)
        lost = [part for tables, cells in lost for part in lost_parts(tables, cells, table, region)]
    return region_of_rects([rect for _, cells in lost for rect in cells.rects])


def lost_parts(tables, cells, table, region):
    """Return the pairs that come of lost cells read by some tables if those in a region are read by one more table."""
    parts = [(tables, cells - region)]
    if not keeps_apart(*tables, table):
        parts.append(((*tables, table), cells & region))
    return [part for part in parts if len(part[1]) > 0]


def choices_at_beginning(stage, links, end):
    """Return a dict with the choices of colours, for the cells of each surface, that lead to the end."""
    found = {name: [] for name, _, _ in stage}
    for link in links:
        if link.source is not None:
            for rect in link.ends:
                shown = cut(sheets_of(end)[link.surface], rect)
                found[link.source].append(choices_for(taken(shown, link.mirror), link.pairs))
    return {name: narrowed_by_all(found[name]) for name in found}


def chosen_sheets(stage, links, end):
    """Return a dict of the sheets of a picture that leads to the end, if there is one."""
    return {
        name: laid(filled(whole(stage, name), 0), first_ones(choices))
        for name, choices in choices_at_beginning(stage, links, end).items()
    }


def with_saved(sheet, saved, lost):
    """Return a sheet with the colours of a saved one in the region of the lost cells."""
    return laid(sheet, laid_in_turn([cut(saved, rect) for rect in lost.rects]))


def unlike_fill(links, end):
    """Return a cell that a "fill" always gives another colour than it has in the end, None if there is none."""
    for link in links:
        if link.source is None:
            for rect in link.ends:
                for top, _, spans in cut(sheets_of(end)[link.surface], rect):
                    others = [start for start, _, colour in spans if colour != link.colour]
                    if others:
                        return (link.surface, others[0], top)
    return None


def barring_cells(links, end, cell):
    """Return cells that get the colour of a cell at the beginning, but have colours in the end that bar each other."""
    kept = [(place, turning_into(end[place], link.pairs)) for place, link in linked_to(links, cell)]
    for pair in list(kept):
        others = [other for other in kept if other != pair]
        if others and not common_colours(others):
            kept = others
    return tuple(sorted([place for place, _ in kept]))


def common_colours(told):
    """Return the colours that stand in the second element of each of some pairs."""
    found = None
    for _, colours in told:
        found = in_both(found, colours)
    return found
