"""How many orders a script would have if it was written out. Numbers can have many digits: nothing is written out."""

from allscreens.errors import TooManyCopies, TooManyKeys, TooManyOrders, TooManyRecolours
from allscreens.limits import MOST_COPIES, MOST_KEYS, MOST_ORDERS, MOST_RECOLOURS
from allscreens.orders import FRAMES


def without_empty(orders, parts):
    """Return the orders without those that stand for no order, so that nobody goes through these.

    parts is a dict of the orders of the parts that may be called, treated in the same way.
    """
    kept = []
    for order in orders:
        if order[0] == "call":
            if parts[order[1]]:
                kept.append(order)
        elif order[0] in FRAMES:
            inside = without_empty(order[-1], parts)
            if inside and not (order[0] == "repeat" and order[1] == 0):
                kept.append((*order[:-1], inside))
        else:
            kept.append(order)
    return tuple(kept)


def parts_without_empty(parts):
    """Return a dict of the orders of all parts, without those that stand for no order."""
    kept = {}
    for name, orders in parts:
        kept[name] = without_empty(orders, kept)
    return kept


def counts_of(orders, counts_of_parts):
    """Return how many orders, copies, copies with a KEY and recolours these orders stand for, as a tuple."""
    counts = (0, 0, 0, 0)
    for order in orders:
        found = counts_of_order(order, counts_of_parts)
        counts = tuple([one + other for one, other in zip(counts, found)])
    return counts


def counts_of_order(order, counts_of_parts):
    """Return the counts that one order stands for."""
    word = order[0]
    if word == "call":
        return counts_of_parts[order[1]]
    if word in FRAMES:
        times = order[1] if word == "repeat" else 1
        return tuple([times * count for count in counts_of(order[-1], counts_of_parts)])
    copies = 1 if word == "copy" else 0
    keys = 1 if word == "copy" and order[7] is not None else 0
    return (1, copies, keys, 1 if word == "recolour" else 0)


def check_counts(orders, parts):
    """Raise the error of the first limit that the orders exceed; parts is a dict of the orders of the parts."""
    counts_of_parts = {}
    for name, inside in parts.items():
        counts_of_parts[name] = counts_of(inside, counts_of_parts)
    many, copies, keys, recolours = counts_of(orders, counts_of_parts)
    if many > MOST_ORDERS:
        raise TooManyOrders(many)
    if copies > MOST_COPIES:
        raise TooManyCopies(copies)
    if keys > MOST_KEYS:
        raise TooManyKeys(keys)
    if recolours > MOST_RECOLOURS:
        raise TooManyRecolours(recolours)
