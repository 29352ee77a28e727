"""Pictures: they give a colour to each cell of a stage."""

from allscreens.colours import check_colour, is_colour
from allscreens.errors import InvalidPatch, NotAPicture
from allscreens.rects import is_rect, overlap
from allscreens.regions import region_of
from allscreens.sheets import areas_of, colour_at, filled, laid, laid_in_turn, unlike_bands
from allscreens.stages import check_cell, check_same_stage, check_stage, check_surface, has_surface, is_cell, whole


class Picture:
    """A picture: all cells have the colour of the ground, but those that lie in patches."""

    def __init__(self, stage, *patches, ground=0):
        check_stage(stage)
        check_patches(stage, patches)
        check_colour(ground)
        self._stage = stage
        self._sheets = patched_sheets(
            stage, {surface[0]: filled(whole(stage, surface[0]), ground) for surface in stage}, patches)

    @classmethod
    def of_cells(cls, stage, cells):
        """Return the picture in which cells have the colours of the pairs (CELL, COLOUR), and all others 0."""
        check_stage(stage)
        check_cells(stage, cells)
        patches = [(name, (x, y, 1, 1), colour) for (name, x, y), colour in cells]
        return cls(stage, *patches)

    @property
    def stage(self):
        """The stage of the picture."""
        return self._stage

    def __getitem__(self, cell):
        check_cell(self._stage, cell)
        name, x, y = cell
        return colour_at(self._sheets[name], x, y)

    def __iter__(self):
        raise TypeError("a picture is not iterated over")

    def areas(self, surface):
        """Return the ascending tuple of the pairs (colour, region of the cells with this colour) of a surface."""
        check_surface(self._stage, surface)
        return coloured_regions(self._sheets[surface])

    def patched(self, *patches):
        """Return the picture with these patches on it."""
        check_patches(self._stage, patches)
        return picture_of(self._stage, patched_sheets(self._stage, self._sheets, patches))

    def unlike(self, other_picture):
        """Return the pairs (name, region of the cells whose colours are different) of surfaces with such cells."""
        check_picture(other_picture)
        check_same_stage(self._stage, other_picture.stage)
        others = sheets_of(other_picture)
        return tuple([
            (name, region_of(unlike_bands(sheet, others[name])))
            for name, sheet in self._sheets.items()
            if sheet != others[name]
        ])

    def __eq__(self, other):
        return isinstance(other, Picture) and self._stage == other._stage and self._sheets == other._sheets

    def __repr__(self):
        return f"Picture({len(self._stage)} surfaces)"


def coloured_regions(sheet):
    """Return the ascending tuple of the pairs (colour, region of the cells with this colour) of a sheet."""
    return tuple([(colour, region_of(found)) for colour, found in areas_of(sheet).items()])


def check_picture(value):
    """Raise NotAPicture if the value is not a Picture."""
    if not isinstance(value, Picture):
        raise NotAPicture(value)


def is_patch(stage, value):
    """Tell if the value is a tuple (SURFACE, RECT, COLOUR) for a stage, which is valid."""
    if not isinstance(value, tuple) or len(value) != 3:
        return False
    name, rect, colour = value
    return has_surface(stage, name) and is_rect(rect) and is_colour(colour)


def check_patches(stage, patches):
    """Raise InvalidPatch with the index of the first patch that is none."""
    for index, patch in enumerate(patches):
        if not is_patch(stage, patch):
            raise InvalidPatch(index)


def check_cells(stage, value):
    """Raise InvalidPatch if the value is not a tuple of pairs (CELL, COLOUR) for a stage, which is valid."""
    if not isinstance(value, tuple):
        raise InvalidPatch(None)
    for index, pair in enumerate(value):
        if not isinstance(pair, tuple) or len(pair) != 2 or not is_cell(stage, pair[0]) or not is_colour(pair[1]):
            raise InvalidPatch(index)


def patched_sheets(stage, sheets, patches):
    """Return a dict with the sheets of all surfaces, with patches laid over them."""
    over = {name: [] for name in sheets}
    for name, rect, colour in patches:
        inside = overlap(rect, whole(stage, name))
        if inside is not None:
            over[name].append(filled(inside, colour))
    return {name: laid(sheet, laid_in_turn(over[name])) for name, sheet in sheets.items()}


def sheets_of(picture):
    """Return the dict of the sheets of a picture, in the order of the surfaces. It is not to be changed."""
    return picture._sheets


def picture_of(stage, sheets):
    """Return the picture of a stage with these sheets, which cover all of its surfaces."""
    picture = Picture(stage)
    picture._sheets = sheets
    return picture
