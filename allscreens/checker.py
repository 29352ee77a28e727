"""The checker: it tells if certificates show claims, and shares no code with what makes them."""

from allscreens.checked_trees import Shown, at_end, carried, same_at_end
from allscreens.checked_values import (
    are_cells, are_keyless, are_strokes, are_told_cells, is_cell, is_colour, is_filled_rect, is_stage, is_string,
    is_tuple,
)
from allscreens.checked_ways import are_even, is_cover

# How many elements a claim has, its word counted.
LENGTHS = {"alike": 4, "unlike": 6, "stays": 5, "changes": 5, "lost": 6, "kept": 4}


def accepts(claim, certificate):
    """Tell if the claim and the certificate have one of the forms of the document and what is said there holds."""
    if not is_tuple(claim) or len(claim) == 0 or not is_string(claim[0]):
        return False
    word = claim[0]
    if LENGTHS.get(word) != len(claim) or not is_stage(claim[1]):
        return False
    stage, told = claim[1], claim[2:]
    if word == "alike":
        return shows_alike(stage, told, certificate)
    if word == "stays":
        return shows_that_it_stays(stage, told, certificate)
    if certificate is not None:
        return False
    if word == "unlike":
        return is_unlike(stage, told)
    if word == "changes":
        return changes(stage, told)
    return is_lost(stage, told) if word == "lost" else is_kept(stage, told)


def shows_alike(stage, told, certificate):
    """Tell if covers of all surfaces show that strokes are alike."""
    one, other = told
    if not are_strokes(stage, one) or not are_strokes(stage, other):
        return False
    if not is_tuple(certificate) or len(certificate) != len(stage):
        return False
    for (name, width, height), cover in zip(stage, certificate):
        if not covers_alike(one, other, name, (0, 0, width, height), cover):
            return False
    return True


def shows_that_it_stays(stage, told, certificate):
    """Tell if a cover of a rectangle shows that each of its cells ends with the colour that it has."""
    strokes, surface, rect = told
    if not are_strokes(stage, strokes) or not are_cells(stage, surface, rect):
        return False
    return covers_alike(strokes, (), surface, rect, certificate)


def covers_alike(strokes, other_strokes, surface, whole, cover):
    """Tell if the value is a cover of a rectangle, even for both strokes, and these give its cells the same forms."""
    if not is_tuple(cover) or not all([is_filled_rect(rect) for rect in cover]) or not is_cover(cover, whole):
        return False
    for rect in cover:
        # All cells of an even rectangle have the same forms, but for the cells in these: so one tells of them all.
        if not are_even(strokes, other_strokes, surface, rect):
            return False
        if not same_at_end(strokes, other_strokes, (surface, rect[0], rect[1])):
            return False
    return True


def is_unlike(stage, told):
    """Tell if two tuples of strokes end with different colours in a cell, for a picture."""
    one, other, cell, cells = told
    if not are_strokes(stage, one) or not are_strokes(stage, other):
        return False
    if not is_cell(stage, cell) or not are_told_cells(stage, cells):
        return False
    return at_end(Shown(cells), one, cell) != at_end(Shown(cells), other, cell)


def changes(stage, told):
    """Tell if a cell ends with another colour than it has at the beginning, for a picture."""
    strokes, cell, cells = told
    return is_unlike(stage, (strokes, (), cell, cells))


def is_lost(stage, told):
    """Tell if two different colours of a cell at the beginning always lead to the same end."""
    strokes, cell, colour, other_colour = told
    if not are_keyless(stage, strokes) or not is_cell(stage, cell):
        return False
    if not is_colour(colour) or not is_colour(other_colour) or colour == other_colour:
        return False
    return all([one == other for one, other in carried(strokes, cell, (colour, other_colour))])


def is_kept(stage, told):
    """Tell if any two different colours of a cell at the beginning lead to different ends."""
    strokes, cell = told
    if not are_keyless(stage, strokes) or not is_cell(stage, cell):
        return False
    # A colour that no pair names stays as it is wherever it is carried, and no other one becomes like it.
    pairs = [pair for stroke in strokes if stroke[0] == "recolour" for pair in stroke[3]]
    named = sorted({colour for pair in pairs for colour in pair})
    ends = carried(strokes, cell, named)
    return len(ends) > 0 and len({tuple([end[at] for end in ends]) for at in range(len(named))}) == len(named)
