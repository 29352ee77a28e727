"""Sheets: what pictures are made of. A sheet gives colours to some places, however many.

A span (start, end, colour) is a stretch of neighbouring places of a row; the end is the first place behind it. A tuple
of spans is ascending, and no two of them overlap, or touch and have the same colour. A sheet is a tuple of bands
(top, bottom, spans), made as the bands of regions are. So the same colours always give the same sheet.
"""

from allscreens.spans import IN_BOTH, IN_FIRST_ONLY, bands_of, joined_bands, mixed_bands, rects_of, spans_between


def joined_spans(spans):
    """Join spans that touch and have the same colour."""
    kept = []
    for start, end, colour in spans:
        if kept and kept[-1][1] == start and kept[-1][2] == colour:
            kept[-1] = (kept[-1][0], end, colour)
        else:
            kept.append((start, end, colour))
    return tuple(kept)


def filled(rect, colour):
    """Return the sheet that gives the places of a rectangle, which has some, this colour."""
    x, y, width, height = rect
    return ((y, y + height, ((x, x + width, colour),)),)


def laid_spans(under, over):
    """Return the spans of a row with others laid over them."""
    found = list(over)
    first = 0
    for start, end, colour in under:
        while first < len(over) and over[first][1] <= start:
            first += 1
        at = first
        while at < len(over) and over[at][0] < end:
            if start < over[at][0]:
                found.append((start, over[at][0], colour))
            start = over[at][1]
            at += 1
        if start < end:
            found.append((start, end, colour))
    return joined_spans(sorted(found))


def laid(under, over):
    """Return a sheet with another one laid over it."""
    if not over:
        return under
    # Only bands that the other sheet touches can change, or be joined with what changes.
    above = [band for band in under if band[1] < over[0][0]]
    below = [band for band in under if band[0] > over[-1][1]]
    between = under[len(above):len(under) - len(below)]
    bounds = sorted({bound for band in between + over for bound in band[:2]})
    of_under = spans_between(between, bounds)
    of_over = spans_between(over, bounds)
    changed = joined_bands([
        (bounds[at], bounds[at + 1], laid_spans(of_under[at], of_over[at]))
        for at in range(len(bounds) - 1)
    ])
    return (*above, *changed, *below)


def laid_in_turn(sheets):
    """Return the sheet that comes of a list of sheets, each laid over those before it."""
    if not sheets:
        return ()
    if len(sheets) == 1:
        return sheets[0]
    # By halves, so that many sheets do not go one by one through all that were laid before.
    half = len(sheets) // 2
    return laid(laid_in_turn(sheets[:half]), laid_in_turn(sheets[half:]))


def cut(sheet, rect):
    """Return the part of a sheet that lies in a rectangle."""
    x, y, width, height = rect
    return joined_bands([
        (max(top, y), min(bottom, y + height), tuple([
            (max(start, x), min(end, x + width), colour)
            for start, end, colour in spans
            if start < x + width and x < end
        ]))
        for top, bottom, spans in sheet
        if top < y + height and y < bottom
    ])


def turned(sheet, pairs):
    """Return a sheet recoloured by pairs."""
    new = dict(pairs)
    return joined_bands([
        (top, bottom, joined_spans([(start, end, new.get(colour, colour)) for start, end, colour in spans]))
        for top, bottom, spans in sheet
    ])


def without(sheet, unwanted):
    """Return a sheet without the places of one colour; all of it if there is None to leave out."""
    return joined_bands([
        (top, bottom, tuple([span for span in spans if span[2] != unwanted]))
        for top, bottom, spans in sheet
    ])


def stretch_taken(start, end, shift, mirrored):
    """Return the start and the end of a stretch that is moved, or mirrored and moved."""
    if mirrored:
        return (shift - end + 1, shift - start + 1)
    return (shift + start, shift + end)


def taken(sheet, mirror):
    """Return a sheet with all of its places taken to others by a Mirror."""
    return tuple(sorted([
        (*stretch_taken(top, bottom, mirror.y, mirror.down), tuple(sorted([
            (*stretch_taken(start, end, mirror.x, mirror.across), colour)
            for start, end, colour in spans
        ])))
        for top, bottom, spans in sheet
    ]))


def colour_at(sheet, x, y):
    """Return the colour of a place of a sheet that has no gaps."""
    return content_at(content_at(sheet, y), x)


def content_at(stretches, at):
    """Return what the stretch (start, end, content) that has a place contains; there is no gap between them."""
    low = 0
    high = len(stretches) - 1
    while low < high:
        middle = (low + high) // 2
        if stretches[middle][1] <= at:
            low = middle + 1
        else:
            high = middle
    return stretches[low][2]


def areas_of(sheet):
    """Return a dict with the bands of the places of each colour of a sheet, with the colours ascending."""
    found = {}
    for top, bottom, spans in sheet:
        rows = {}
        for start, end, colour in spans:
            rows.setdefault(colour, []).append((start, end))
        for colour in rows:
            found.setdefault(colour, []).append((top, bottom, tuple(rows[colour])))
    return {colour: joined_bands(found[colour]) for colour in sorted(found)}


def unlike_bands(sheet, other_sheet):
    """Return the bands of the places whose colours are different in two sheets without gaps, of the same places."""
    areas = areas_of(sheet)
    other_areas = areas_of(other_sheet)
    alike = [
        rect
        for colour in areas if colour in other_areas
        for rect in rects_of(mixed_bands(areas[colour], other_areas[colour], IN_BOTH))
    ]
    everything = bands_of([rect for bands in list(areas.values()) for rect in rects_of(bands)])
    return mixed_bands(everything, bands_of(alike), IN_FIRST_ONLY)
