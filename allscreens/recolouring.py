"""Recolouring: tuples of pairs (old, new) of colours, ascending by the old ones."""

from allscreens.colours import check_colour, is_colour
from allscreens.errors import InvalidPairs


def is_pair(value):
    """Tell if the value is a pair of colours."""
    return isinstance(value, tuple) and len(value) == 2 and is_colour(value[0]) and is_colour(value[1])


def is_pairs(value):
    """Tell if the value is a tuple of pairs of colours, ascending by the old ones, which are different."""
    if not isinstance(value, tuple) or not all([is_pair(pair) for pair in value]):
        return False
    return all([pair[0] < later[0] for pair, later in zip(value, value[1:])])


def check_pairs(value):
    """Raise InvalidPairs if the value is not such pairs."""
    if not is_pairs(value):
        raise InvalidPairs(value)


def recoloured(colour, pairs):
    """Return the colour into which recolouring by these pairs turns it."""
    check_colour(colour)
    check_pairs(pairs)
    return dict(pairs).get(colour, colour)


def combined(pairs, other_pairs):
    """Return the pairs that do the same as the first ones and then the other ones, without needless ones."""
    check_pairs(pairs)
    check_pairs(other_pairs)
    first = dict(pairs)
    second = dict(other_pairs)
    found = []
    for old in sorted({pair[0] for pair in pairs + other_pairs}):
        between = first.get(old, old)
        new = second.get(between, between)
        if new != old:
            found.append((old, new))
    return tuple(found)


def keeps_apart(*tables):
    """Tell if any two different colours are turned into different ones by at least one of the tables."""
    for table in tables:
        check_pairs(table)
    return joined_colours(tables) is None


def joined_colours(tables):
    """Return two different colours that each of some tables turns into the same one, None if there are none."""
    if not tables:
        return (0, 1)
    turns = [dict(table) for table in tables]
    # A colour that no table names stays what it is in each of them, and nothing else becomes this colour.
    first = {}
    for colour in sorted({each for table in tables for pair in table for each in pair}):
        turned = tuple([turn.get(colour, colour) for turn in turns])
        if turned in first:
            return (first[turned], colour)
        first[turned] = colour
    return None
