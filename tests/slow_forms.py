"""Forms, and what cells depend on, found by trying all colours: the tests compare the program with this."""

import itertools


def value(form, colours):
    """The value of a form for a dict of the colours of cells."""
    if form[0] == "colour":
        return form[1]
    if form[0] == "cell":
        return colours[form[1]]
    for colour, inside in form[2]:
        if colours[form[1]] == colour:
            return value(inside, colours)
    return value(form[3], colours)


def inner(form):
    return [inside for _, inside in form[2]] + [form[3]] if form[0] == "ask" else []


def cells_in(form):
    found = {form[1]} if form[0] != "colour" else set()
    return found.union(*[cells_in(each) for each in inner(form)])


def colours_in(form):
    found = {form[1]} if form[0] == "colour" else {colour for colour, _ in form[2]} if form[0] == "ask" else set()
    return found.union(*[colours_in(each) for each in inner(form)])


def asks_in(form):
    found = {form[1]} if form[0] == "ask" else set()
    return found.union(*[asks_in(each) for each in inner(form)])


def assignments(cells, named):
    """Dicts that give the cells all named colours, and each of them a colour of its own that is not named."""
    cells, named = sorted(cells), sorted(named)
    others = [colour for colour in range(100, 200) if colour not in named]
    for colours in itertools.product(*[[*named, others[at]] for at in range(len(cells))]):
        yield dict(zip(cells, colours))


def same_values(form, other):
    cells, named = cells_in(form) | cells_in(other), colours_in(form) | colours_in(other)
    return all(value(form, colours) == value(other, colours) for colours in assignments(cells, named))


def put(form, cell, colour):
    """A colour put for a cell, as the document tells it."""
    if form == ("cell", cell):
        return ("colour", colour)
    if form[0] != "ask":
        return form
    if form[1] == cell:
        return put(dict(form[2]).get(colour, form[3]), cell, colour)
    return ("ask", form[1], tuple((old, put(inside, cell, colour)) for old, inside in form[2]), put(form[3], cell, colour))


def is_reduced(form):
    """Tell if each "ask" is as point 14 says. The last part of it is tried with all colours."""
    if form[0] != "ask":
        return True
    _, cell, branches, other = form
    if any(asked <= cell for each in inner(form) for asked in asks_in(each)):
        return False
    if any(cell in cells_in(inside) for _, inside in branches):
        return False
    if any(same_values(inside, put(other, cell, colour)) for colour, inside in branches):
        return False
    return all(is_reduced(each) for each in inner(form))


def some_form(source, cells, named, depth):
    """A form of these cells and colours, the same for each run of the tests."""
    if depth == 0 or source.randrange(6) == 0:
        return source.choice((("colour", source.choice(named)), ("cell", source.choice(cells))))
    colours = sorted(source.sample(named, source.randint(1, len(named))))
    return ("ask", source.choice(cells), tuple((colour, some_form(source, cells, named, depth - 1)) for colour in colours),
            some_form(source, cells, named, depth - 1))


def rewritten(source, form, cells, named):
    """The same values, written in another way."""
    for _ in range(source.randint(1, 3)):
        cell = source.choice(cells)
        colours = sorted(source.sample(named, source.randint(1, len(named))))
        form = ("ask", cell, tuple((colour, source.choice((form, put(form, cell, colour)))) for colour in colours), form)
    return form


def source_in(stroke, cell):
    """The cell from which a stroke "copy" takes the colour of a cell; for others the cell itself; None if it writes not."""
    name, x, y = cell
    if stroke[0] != "copy":
        left, top, width, height = stroke[2]
        return cell if stroke[1] == name and left <= x < left + width and top <= y < top + height else None
    left, top, width, height = stroke[2]
    i, j = x - stroke[4], y - stroke[5]
    if stroke[3] != name or not 0 <= i < width or not 0 <= j < height:
        return None
    p = width - 1 - i if stroke[6] in ("across", "both") else i
    q = height - 1 - j if stroke[6] in ("down", "both") else j
    return (stroke[1], left + p, top + q)


def end_colour(strokes, cell, colours):
    """The colour of a cell behind strokes, with a dict or a picture of the colours at the beginning."""
    if not strokes:
        return colours[cell]
    stroke = strokes[-1]
    source = source_in(stroke, cell)
    if source is None:
        return end_colour(strokes[:-1], cell, colours)
    if stroke[0] == "fill":
        return stroke[3]
    colour = end_colour(strokes[:-1], source, colours)
    if stroke[0] == "recolour":
        return dict(stroke[3]).get(colour, colour)
    return end_colour(strokes[:-1], cell, colours) if colour == stroke[7] else colour


def origins(strokes, cell):
    """The cells of the beginning to which the ways back from a cell come."""
    if not strokes:
        return {cell}
    source = source_in(strokes[-1], cell)
    if source is None:
        return origins(strokes[:-1], cell)
    if strokes[-1][0] == "fill":
        return set()
    found = origins(strokes[:-1], source)
    if strokes[-1][0] == "copy" and strokes[-1][7] is not None:
        found = found | origins(strokes[:-1], cell)
    return found


def named_in(strokes):
    """The colours that strokes name."""
    found = set()
    for stroke in strokes:
        if stroke[0] == "fill":
            found.add(stroke[3])
        elif stroke[0] == "recolour":
            found |= {colour for pair in stroke[3] for colour in pair}
        elif stroke[7] is not None:
            found.add(stroke[7])
    return found


def same_ends(strokes, other_strokes, cell):
    """Tell if a cell ends with the same colour through both strokes, whatever the picture is."""
    cells = origins(strokes, cell) | origins(other_strokes, cell)
    named = named_in(strokes) | named_in(other_strokes)
    return all(
        end_colour(strokes, cell, colours) == end_colour(other_strokes, cell, colours)
        for colours in assignments(cells, named)
    )
