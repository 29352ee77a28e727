"""Edits of a tuple of orders."""

from allscreens.errors import InvalidEdit, InvalidNumber, InvalidOrder
from allscreens.integers import is_between
from allscreens.orders import wrong_path

# How many elements an edit has, its word counted.
LENGTHS = {"insert": 3, "remove": 2, "replace": 3, "move": 3}


def is_edit(value):
    """Tell if the value has the form of an edit, whatever its index, place or order is."""
    if not isinstance(value, tuple) or len(value) == 0 or not isinstance(value[0], str):
        return False
    return LENGTHS.get(value[0]) == len(value)


def check_edit(value):
    """Raise InvalidEdit if the value does not have the form of an edit."""
    if not is_edit(value):
        raise InvalidEdit(None)


def check_edits(value):
    """Raise InvalidEdit if the value is not a tuple of values that have the form of edits."""
    if not isinstance(value, tuple):
        raise InvalidEdit(None)
    for index, edit in enumerate(value):
        if not is_edit(edit):
            raise InvalidEdit(index)


def check_index(value, last):
    """Raise InvalidNumber if the value is not an index up to the last one."""
    if not is_between(value, 0, last):
        raise InvalidNumber(value)


def check_order(stage, value):
    """Raise InvalidOrder if the value is not an order without "call"."""
    path = wrong_path(stage, (value,), ())
    if path is not None:
        raise InvalidOrder(path)


def edited(stage, orders, edit):
    """Return the tuple of the orders behind an edit, or raise what is wrong with its index, place or order."""
    word, index = edit[:2]
    last = len(orders) if word == "insert" else len(orders) - 1
    check_index(index, last)
    others = orders if word == "insert" else orders[:index] + orders[index + 1:]
    if word == "remove":
        return others
    if word == "move":
        check_index(edit[2], last)
        return put_in(others, edit[2], orders[index])
    check_order(stage, edit[2])
    return put_in(others, index, edit[2])


def put_in(orders, index, order):
    """Return the tuple of orders with one more that has this index then."""
    return (*orders[:index], order, *orders[index:])
