"""What scripts do, found cell by cell as the document tells it: the tests compare the program with this."""

from helpers import points_of


def cells_of(stage):
    return [(name, x, y) for name, width, height in stage for x in range(width) for y in range(height)]


def through(frames, point):
    """Where a point of an order stands, inside of frames, the outermost of them first."""
    x, y = point
    for frame in reversed(frames):
        if frame[0] == "moved":
            x, y = x + frame[1], y + frame[2]
        elif frame[0] == "mirrored":
            x = x if frame[1] is None else frame[1] - x
            y = y if frame[2] is None else frame[2] - y
    return (x, y)


def limits_of(frames):
    """The sets of points of all "within" among the frames."""
    return [
        {through(frames[:at], point) for point in points_of(frame[1])}
        for at, frame in enumerate(frames) if frame[0] == "within"
    ]


def written_out(orders, parts, frames=()):
    """All pairs of an order and the frames around it, in the order in which they are performed."""
    found = []
    for order in orders:
        if order[0] == "call":
            found += written_out(dict(parts)[order[1]], parts, frames)
        elif order[0] == "repeat":
            for _ in range(order[1]):
                found += written_out(order[2], parts, frames)
        elif order[0] in ("within", "moved", "mirrored"):
            found += written_out(order[-1], parts, (*frames, order[:-1]))
        else:
            found.append((order, frames))
    return found


def moves_of(order):
    """The pairs of a point that an order gives a colour and the point whose colour it gets, None for a fill."""
    if order[0] == "fill":
        return [(point, None) for point in points_of(order[2])]
    if order[0] == "recolour":
        return [(point, point) for point in points_of(order[2])]
    (left, top, width, height), x, y, mirror = order[2], order[4], order[5], order[6]
    found = []
    for i in range(width):
        for j in range(height):
            p = width - 1 - i if mirror in ("across", "both") else i
            q = height - 1 - j if mirror in ("down", "both") else j
            found.append(((x + i, y + j), (left + p, top + q)))
    return found


def record(stage, order, frames=()):
    """What an order inside of frames does: a tuple (how, cells), the cells a dict of the source of each cell."""
    cells = set(cells_of(stage))
    limits = limits_of(frames)
    target, source = (order[3], order[1]) if order[0] == "copy" else (order[1], order[1])
    found = {}
    for point, origin in moves_of(order):
        at = through(frames, point)
        come_from = None if origin is None else (source, *through(frames, origin))
        if (target, *at) in cells and (come_from is None or come_from in cells) and all(at in each for each in limits):
            found[(target, *at)] = come_from
    how = (order[0], order[7] if order[0] == "copy" else order[3])
    return how, found


def records(stage, orders, parts=()):
    """What each order of a script does that is written out, without those that write no cell."""
    found = [record(stage, order, frames) for order, frames in written_out(orders, parts)]
    return [(how, cells) for how, cells in found if cells]


def performed(one_record, colours):
    """A dict of the colours behind an order."""
    (word, last), cells = one_record
    found = dict(colours)
    for cell, source in cells.items():
        if word == "fill":
            found[cell] = last
        elif word == "recolour":
            found[cell] = dict(last).get(colours[cell], colours[cell])
        elif last is None or colours[source] != last:
            found[cell] = colours[source]
    return found


def painted(stage, orders, colours, parts=()):
    """A dict of the colours at the end."""
    for one_record in records(stage, orders, parts):
        colours = performed(one_record, colours)
    return colours


SCALE = 10 ** 11


def scaled_rect(rect):
    return tuple(SCALE * number for number in rect)


def scaled_stage(stage):
    return tuple((name, SCALE * width, SCALE * height) for name, width, height in stage)


def scaled_place(place):
    """The number by which blocks are mirrored as single points are by this one."""
    return None if place is None else SCALE * place + SCALE - 1


def scaled_order(order):
    """The order that does with blocks of cells what this one does with single cells."""
    word = order[0]
    if word in ("fill", "recolour"):
        return (word, order[1], scaled_rect(order[2]), order[3])
    if word == "copy":
        return (word, order[1], scaled_rect(order[2]), order[3], SCALE * order[4], SCALE * order[5], *order[6:])
    if word == "within":
        return (word, scaled_rect(order[1]), scaled_orders(order[2]))
    if word == "moved":
        return (word, SCALE * order[1], SCALE * order[2], scaled_orders(order[3]))
    if word == "mirrored":
        return (word, scaled_place(order[1]), scaled_place(order[2]), scaled_orders(order[3]))
    if word == "repeat":
        return (word, order[1], scaled_orders(order[2]))
    return order


def scaled_orders(orders):
    return tuple(scaled_order(order) for order in orders)


def scaled_parts(parts):
    return tuple((name, scaled_orders(orders)) for name, orders in parts)


def corners(cell):
    """The corners of the block that stands for a cell."""
    name, x, y = cell
    return [(name, x * SCALE + i, y * SCALE + j) for i in (0, SCALE - 1) for j in (0, SCALE - 1)]


COLOURS = (0, 1, 2, 7)


def some_rect(source, least=-2, most=4, size=5):
    return (
        source.randint(least, most), source.randint(least, most), source.randint(0, size), source.randint(0, size))


def near_rect(source):
    """A rectangle that mostly has cells of a small surface; now and then any one."""
    if source.randrange(6) == 0:
        return some_rect(source)
    return (source.randint(-1, 1), source.randint(-1, 1), source.randint(2, 5), source.randint(1, 4))


def near_place(source):
    return source.randint(-2, 4) if source.randrange(6) == 0 else source.randint(-1, 2)


def some_pairs(source):
    olds = sorted(source.sample(COLOURS, source.randint(0, 2)))
    return tuple((old, source.choice(COLOURS)) for old in olds)


def some_order(source, stage, words=("fill", "recolour", "copy"), keys=(None, 0, 1)):
    """A plain order, the same for each run of the tests."""
    word, name = source.choice(words), source.choice(stage)[0]
    if word == "fill":
        return ("fill", name, near_rect(source), source.choice(COLOURS))
    if word == "recolour":
        return ("recolour", name, near_rect(source), some_pairs(source))
    return (
        "copy", name, near_rect(source), source.choice(stage)[0], near_place(source), near_place(source),
        source.choice(("none", "across", "down", "both")), source.choice(keys))


FRAMES = ("within", "moved", "mirrored", "repeat")


def framed(source, orders, words=FRAMES):
    """Orders with a frame around them."""
    word = source.choice(words)
    if word == "within":
        return (word, near_rect(source), orders)
    if word == "repeat":
        return (word, source.choice((1, 1, 2)), orders)
    if word == "moved":
        return (word, source.randint(-2, 2), source.randint(-2, 2), orders)
    return (word, source.choice((None, 0, 3, 4)), source.choice((None, 1, 2, 3)), orders)


def in_limits(stage, orders, parts=()):
    """Tell if a script with these orders has at most as many as allowed."""
    plain = [order for order, _ in written_out(orders, parts)]
    copies = [order for order in plain if order[0] == "copy"]
    keyed = [order for order in copies if order[7] is not None]
    recolours = [order for order in plain if order[0] == "recolour"]
    return len(plain) <= 16 and len(copies) <= 4 and len(keyed) <= 2 and len(recolours) <= 4


def orders_in_limits(source, stage, many, depth, make):
    """A tuple of so many orders within the limits, with some frames around them up to this depth."""
    while True:
        orders = []
        for _ in range(many):
            order = make()
            for _ in range(source.randint(0, depth)):
                order = framed(source, (order,))
            orders.append(order)
        if in_limits(stage, tuple(orders)):
            return tuple(orders)


def some_orders(source, stage, many, depth=0, words=("fill", "recolour", "copy"), keys=(None, 0, 1)):
    """Any orders, with frames around them up to this depth."""
    return orders_in_limits(source, stage, many, depth, lambda: some_order(source, stage, words, keys))


def rect_on(source, width, height):
    """A rectangle that has cells of a surface of this size, perhaps with points beside it."""
    x, y = source.randint(-1, width - 1), source.randint(-1, height - 1)
    return (x, y, source.randint(1 - min(x, 0), width + 1), source.randint(1 - min(y, 0), height + 1))


def tight_order(source, stage, words=("fill", "recolour", "copy"), keys=(None, 0, 1)):
    """A plain order that names no colours but 0 and 1, and mostly does something on a very small stage."""
    word, (name, width, height) = source.choice(words), source.choice(stage)
    rect = rect_on(source, width, height)
    if word == "fill":
        return ("fill", name, rect, source.randint(0, 1))
    if word == "recolour":
        pairs = ((0, 1),), ((1, 0),), ((0, 1), (1, 0)), ((0, 0), (1, 0)), ((0, 1), (1, 1)), ((1, 1),), ()
        return ("recolour", name, rect, source.choice(pairs))
    target, across, down = source.choice(stage)
    x, y = source.randint(-1, across - 1), source.randint(-1, down - 1)
    return ("copy", name, rect, target, x, y, source.choice(("none", "across", "down", "both")), source.choice(keys))


def tight_orders(source, stage, many, depth=0, keys=(None, 0, 1), words=("fill", "recolour", "copy")):
    """Any of these orders, with frames around them up to this depth."""
    return orders_in_limits(source, stage, many, depth, lambda: tight_order(source, stage, words, keys))
