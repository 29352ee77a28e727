"""The text of a script: from orders to lines."""

from allscreens.orders import FRAMES


def lines_of(orders, parts):
    """Return the lines of a script."""
    found = []
    for name, inside in parts:
        found.extend([f"def {name}", *order_lines(inside, "  "), "end"])
    found.extend(order_lines(orders, ""))
    return found


def order_lines(orders, indentation):
    """Return the lines of some orders, indented."""
    found = []
    for order in orders:
        found.append(f"{indentation}{first_line(order)}")
        if order[0] in FRAMES:
            found.extend(order_lines(order[-1], f"{indentation}  "))
            found.append(f"{indentation}end")
    return found


def first_line(order):
    """Return the line of an order, or the first one of those of an order with others inside."""
    word = order[0]
    if word == "fill":
        return f"fill {order[1]} {spaced(order[2])} {order[3]}"
    if word == "recolour":
        return " ".join([f"recolour {order[1]} {spaced(order[2])}", *[f"{old}={new}" for old, new in order[3]]])
    if word == "copy":
        return copy_line(order)
    if word == "within":
        return f"within {spaced(order[1])}"
    # What is left is a word and numbers, perhaps None, or a name.
    told = order[:-1] if word in FRAMES else order
    return " ".join(["-" if value is None else str(value) for value in told])


def copy_line(order):
    """Return the line of a "copy"."""
    _, source, rect, surface, x, y, mirror, key = order
    line = f"copy {source} {spaced(rect)} to {surface} {x} {y} {mirror}"
    return line if key is None else f"{line} key {key}"


def spaced(rect):
    """Return the numbers of a rectangle with single spaces between."""
    return " ".join([str(number) for number in rect])
