"""Effects: what a script does to every picture."""

from allscreens.even import even_lists, first_cell
from allscreens.nodes import Nodes
from allscreens.painting import painted
from allscreens.pictures import check_picture
from allscreens.regions import region_of_rects
from allscreens.scripts import check_script
from allscreens.stages import check_cell, check_same_stage, check_surface, whole
from allscreens.ways import number_at_end


class Effect:
    """The effect of a script: a reduced form for each cell."""

    def __init__(self, script):
        check_script(script)
        self._stage = script.stage
        self._strokes = script.strokes

    @property
    def stage(self):
        """The stage of the script."""
        return self._stage

    def at(self, cell):
        """Return the reduced form of a cell."""
        check_cell(self._stage, cell)
        nodes = Nodes()
        return nodes.form_of(number_at_end(nodes, self._strokes, cell))

    def __call__(self, picture):
        """Return the picture at the end."""
        check_picture(picture)
        check_same_stage(self._stage, picture.stage)
        return painted(self._strokes, picture)

    def sure(self, surface):
        """Return the pairs (colour, region) of the cells of a surface that end with this colour for every picture."""
        check_surface(self._stage, surface)
        nodes = Nodes()
        found = {}
        for rects in even_lists(whole(self._stage, surface), surface, [self._strokes]):
            number = number_at_end(nodes, self._strokes, first_cell(surface, rects), {})
            form = nodes.form_of(number)
            if form[0] == "colour":
                found.setdefault(form[1], []).extend(rects)
        return tuple([(colour, region_of_rects(found[colour])) for colour in sorted(found)])

    def __repr__(self):
        return f"Effect({len(self._stage)} surfaces)"
