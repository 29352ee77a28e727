"""Choices: sheets with ascending tuples of colours, from which one may be chosen, in place of colours.

Where a sheet has nothing, any colour may be chosen.
"""

from allscreens.sheets import joined_spans
from allscreens.spans import joined_bands, spans_between


def turning_into(colour, pairs):
    """Return the ascending tuple of the colours that recolouring by pairs turns into a colour."""
    old = [pair[0] for pair in pairs if pair[1] == colour]
    if colour not in dict(pairs):
        old.append(colour)
    return tuple(sorted(old))


def choices_for(sheet, pairs):
    """Return the choices of colours that recolouring by pairs turns into those of a sheet."""
    return joined_bands([
        (top, bottom, joined_spans([(start, end, turning_into(colour, pairs)) for start, end, colour in spans]))
        for top, bottom, spans in sheet
    ])


def in_both(colours, other_colours):
    """Return the colours that stand in two tuples. None stands for all colours there are."""
    if colours is None or other_colours is None:
        return other_colours if colours is None else colours
    return tuple([colour for colour in colours if colour in other_colours])


def narrowed_spans(spans, other_spans):
    """Return the choices of a row that two rows of choices allow."""
    bounds = sorted({bound for span in spans + other_spans for bound in span[:2]})
    of_one = spans_between(spans, bounds, None)
    of_other = spans_between(other_spans, bounds, None)
    found = []
    for at in range(len(bounds) - 1):
        colours = in_both(of_one[at], of_other[at])
        if colours is not None:
            found.append((bounds[at], bounds[at + 1], colours))
    return joined_spans(found)


def narrowed(choices, other_choices):
    """Return the choices that two sheets of choices allow."""
    bounds = sorted({bound for band in choices + other_choices for bound in band[:2]})
    of_one = spans_between(choices, bounds)
    of_other = spans_between(other_choices, bounds)
    return joined_bands([
        (bounds[at], bounds[at + 1], narrowed_spans(of_one[at], of_other[at]))
        for at in range(len(bounds) - 1)
    ])


def narrowed_by_all(sheets):
    """Return the choices that all sheets of choices in a list allow."""
    if len(sheets) < 2:
        return sheets[0] if sheets else ()
    # By halves, so that many sheets do not go one by one through all that was narrowed before.
    half = len(sheets) // 2
    return narrowed(narrowed_by_all(sheets[:half]), narrowed_by_all(sheets[half:]))


def first_ones(choices):
    """Return the sheet with the first colour of each choice; where there is none to choose, it has nothing."""
    return joined_bands([
        (top, bottom, joined_spans([(start, end, colours[0]) for start, end, colours in spans if colours]))
        for top, bottom, spans in choices
    ])


def place_without_choice(choices):
    """Return a place (x, y) at which there is no colour to choose, None if there is no such place."""
    for top, _, spans in choices:
        for start, _, colours in spans:
            if not colours:
                return (start, top)
    return None
