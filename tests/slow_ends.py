"""What scripts do to all pictures of a small stage, found by painting them all: the tests compare the program with this."""

import itertools

import slow

OTHERS = (50, 60)


class Ends:
    """The ends of all pictures whose cells have named colours, or others that no script names.

    Pictures are tuples of the colours of all cells, in the order of `cells`.
    """

    def __init__(self, stage, orders, named=(0, 1), others=OTHERS, own=True, parts=()):
        self.cells = slow.cells_of(stage)
        records = slow.records(stage, orders, parts)
        # With colours of its own for each cell, no two cells have the same colour by chance.
        self.colours = [
            (*named, *[other + at if own else other for other in others]) for at in range(len(self.cells))]
        self.ends = {picture: self.end(records, picture) for picture in itertools.product(*self.colours)}

    def end(self, records, picture):
        colours = dict(zip(self.cells, picture))
        for record in records:
            colours = slow.performed(record, colours)
        return tuple(colours[cell] for cell in self.cells)

    def beside(self, picture, at):
        """The pictures that differ from one in this cell only."""
        return [picture[:at] + (colour,) + picture[at + 1:] for colour in self.colours[at] if colour != picture[at]]

    def damaged(self):
        return [
            cell for at, cell in enumerate(self.cells)
            if any(end[at] != picture[at] for picture, end in self.ends.items())
        ]

    def needed(self):
        return [
            cell for at, cell in enumerate(self.cells)
            if any(
                self.ends[other] != end for picture, end in self.ends.items() for other in self.beside(picture, at))
        ]

    def pair_that_loses(self, at):
        """Two pictures that differ in this cell only and lead to the same end, None if there are none."""
        for picture, end in self.ends.items():
            for other in self.beside(picture, at):
                if self.ends[other] == end:
                    return picture, other
        return None

    def lost(self):
        return [cell for at, cell in enumerate(self.cells) if self.pair_that_loses(at) is not None]


def points_on(cells, surface):
    """The points of those of the cells that lie on a surface."""
    return {(x, y) for name, x, y in cells if name == surface}
