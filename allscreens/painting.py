"""Painting scripts on pictures."""

from allscreens.pictures import check_picture, picture_of, sheets_of
from allscreens.recolouring import recoloured
from allscreens.scripts import check_script
from allscreens.sheets import cut, filled, laid, taken, turned, without
from allscreens.stages import check_cell, check_same_stage
from allscreens.strokes import back_of, source_of, target_of, writes


def paint(script, picture):
    """Return the picture at the end."""
    check_script(script)
    check_picture(picture)
    check_same_stage(script.stage, picture.stage)
    return painted(script.strokes, picture)


def probe(script, picture, cell):
    """Return the colour of the cell at the end."""
    check_arguments(script, picture, cell)
    return colour_behind(script.strokes, picture, cell)


def trace(script, picture, cell):
    """Return a pair (indexes, origin) that tells where the colour of the cell at the end comes from."""
    check_arguments(script, picture, cell)
    strokes = script.strokes
    indexes = []
    for index in reversed(range(len(strokes))):
        stroke = strokes[index]
        if not writes(stroke, cell):
            continue
        if stroke[0] == "fill":
            return (tuple(sorted([*indexes, index])), None)
        read = source_of(stroke, cell) if stroke[0] == "copy" else cell
        colour = colour_behind(strokes[:index], picture, read)
        if gives(stroke, colour):
            indexes.append(index)
            cell = read
    return (tuple(sorted(indexes)), cell)


def gives(stroke, colour):
    """Tell if a "copy" or a "recolour" gives a cell another colour or origin, when this is the colour that it reads."""
    if stroke[0] == "copy":
        return stroke[7] is None or colour != stroke[7]
    return recoloured(colour, stroke[3]) != colour


def check_arguments(script, picture, cell):
    """Raise the errors of a script, a picture and a cell that are passed together."""
    check_script(script)
    check_picture(picture)
    check_cell(script.stage, cell)
    check_same_stage(script.stage, picture.stage)


def painted(strokes, picture):
    """Return the picture to which strokes lead from a picture of their stage."""
    sheets = sheets_of(picture)
    for stroke in strokes:
        surface, _ = target_of(stroke)
        over = laid(sheets[surface], written_by(stroke, sheets))
        sheets = {name: over if name == surface else sheet for name, sheet in sheets.items()}
    return picture_of(picture.stage, sheets)


def written_by(stroke, sheets):
    """Return the sheet of the colours that a stroke gives the cells that it writes."""
    surface, rect = target_of(stroke)
    if stroke[0] == "fill":
        return filled(rect, stroke[3])
    if stroke[0] == "recolour":
        return turned(cut(sheets[surface], rect), stroke[3])
    copied = taken(cut(sheets[stroke[1]], stroke[2]), ~back_of(stroke))
    return without(copied, stroke[7])


def colour_behind(strokes, picture, cell):
    """Return the colour of a cell behind some strokes."""
    for index in reversed(range(len(strokes))):
        stroke = strokes[index]
        if not writes(stroke, cell):
            continue
        if stroke[0] == "fill":
            return stroke[3]
        if stroke[0] == "recolour":
            return recoloured(colour_behind(strokes[:index], picture, cell), stroke[3])
        colour = colour_behind(strokes[:index], picture, source_of(stroke, cell))
        if colour != stroke[7]:
            return colour
    return picture[cell]
