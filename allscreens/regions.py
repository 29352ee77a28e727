"""Regions: finite sets of points, however large."""

from allscreens.integers import is_int
from allscreens.rects import check_rect
from allscreens.spans import IN_BOTH, IN_EITHER, IN_FIRST_ONLY, bands_of, mixed_bands, rects_of
from allscreens.stages import check_stage, check_surface, whole


class Region:
    """The region of all points of some rectangles."""

    def __init__(self, *rects):
        for rect in rects:
            check_rect(rect)
        self._bands = bands_of(rects)

    @classmethod
    def of_surface(cls, stage, surface):
        """Return the region of the points of the cells of a surface."""
        check_stage(stage)
        check_surface(stage, surface)
        return cls(whole(stage, surface))

    @property
    def rects(self):
        """The tuple of the rectangles: the same one for the same points."""
        return rects_of(self._bands)

    @property
    def points(self):
        """The number of the points."""
        return sum([rect[2] * rect[3] for rect in self.rects])

    def __contains__(self, value):
        if not isinstance(value, tuple) or len(value) != 2:
            return False
        x, y = value
        if not is_int(x) or not is_int(y):
            return False
        rows = [spans for top, bottom, spans in self._bands if top <= y < bottom]
        return any([start <= x < end for spans in rows for start, end in spans])

    def __len__(self):
        return len(self.rects)

    def __or__(self, other):
        return region_of(mixed_bands(self._bands, other._bands, IN_EITHER))

    def __and__(self, other):
        return region_of(mixed_bands(self._bands, other._bands, IN_BOTH))

    def __sub__(self, other):
        return region_of(mixed_bands(self._bands, other._bands, IN_FIRST_ONLY))

    def __eq__(self, other):
        return isinstance(other, Region) and self._bands == other._bands

    def __repr__(self):
        return f"Region({len(self.rects)} rectangles, {self.points} points)"


def region_of(bands):
    """Return the region with these bands. Their rectangles may be greater than those that Region takes."""
    region = Region()
    region._bands = bands
    return region


def region_of_rects(rects):
    """Return the region of the points of a list of rectangles."""
    return Region(*rects)
