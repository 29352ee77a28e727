"""The ways back from a cell at the end, through the strokes, to the beginning."""

from allscreens.strokes import source_of, writes


def number_at_end(nodes, strokes, cell, names=None):
    """Return the number of the reduced form of a cell at the end.

    With a dict of names, cells of the beginning are called by what it has for them; those that are new get the next
    number. So cells at different places, but with the same ways, have the same forms.
    """
    for index in reversed(range(len(strokes))):
        stroke = strokes[index]
        if not writes(stroke, cell):
            continue
        if stroke[0] == "fill":
            return nodes.number_of(("colour", stroke[3]))
        if stroke[0] == "recolour":
            return nodes.turned(number_at_end(nodes, strokes[:index], cell, names), stroke[3])
        source = source_of(stroke, cell)
        if stroke[7] is not None:
            read = number_at_end(nodes, strokes[:index], source, names)
            kept = number_at_end(nodes, strokes[:index], cell, names)
            return nodes.unless(read, stroke[7], kept)
        cell = source
    return nodes.number_of(("cell", cell if names is None else names.setdefault(cell, len(names))))
