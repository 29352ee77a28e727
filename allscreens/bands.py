"""Bands: a picture at the end, told a few rows at a time."""

from allscreens.errors import InvalidNumber
from allscreens.integers import is_between
from allscreens.limits import MOST_SIZE
from allscreens.painting import painted
from allscreens.pictures import check_picture, coloured_regions, sheets_of
from allscreens.scripts import check_script
from allscreens.sheets import cut
from allscreens.stages import check_same_stage, check_surface, size_of


def bands(script, picture, surface, height):
    """Yield for each band of rows of a surface at the end its first row and its colours with their regions."""
    check_script(script)
    check_picture(picture)
    check_surface(script.stage, surface)
    if not is_between(height, 1, MOST_SIZE):
        raise InvalidNumber(height)
    check_same_stage(script.stage, picture.stage)
    sheet = sheets_of(painted(script.strokes, picture))[surface]
    width, rows = size_of(script.stage, surface)
    # Where in the sheet the rows of this band begin: what lies above was told before.
    first = 0
    for y in range(0, rows, height):
        while sheet[first][1] <= y:
            first += 1
        last = first
        while last < len(sheet) and sheet[last][0] < y + height:
            last += 1
        yield (y, coloured_regions(cut(sheet[first:last], (0, y, width, height))))
