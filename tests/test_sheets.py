import itertools
import random
import unittest

from allscreens.mirrors import Mirror
from allscreens.regions import Region, region_of
from allscreens.sheets import (
    areas_of, colour_at, cut, filled, laid, laid_in_turn, taken, turned, unlike_bands, without,
)
from helpers import points_of


def sheet_of(colours):
    """The sheet of a dict of the colours of some places, made row by row."""
    bands = []
    for y in sorted({y for _, y in colours}):
        spans = []
        for x in sorted(x for x, row in colours if row == y):
            if spans and spans[-1][1:] == (x, colours[x, y]):
                spans[-1] = (spans[-1][0], x + 1, colours[x, y])
            else:
                spans.append((x, x + 1, colours[x, y]))
        if bands and bands[-1][1:] == (y, tuple(spans)):
            bands[-1] = (bands[-1][0], y + 1, tuple(spans))
        else:
            bands.append((y, y + 1, tuple(spans)))
    return tuple(bands)


def some_colours(source, gaps=True):
    places = list(itertools.product(range(-2, 3), range(4)))
    kept = [place for place in places if not gaps or source.randrange(3)]
    few = source.choice(((0, 1), (0, 1, 2), (5,)))
    return {place: source.choice(few) for place in kept if place[1] != 2 or not gaps or source.randrange(2)}


class SheetsTest(unittest.TestCase):
    def sheets(self, seed, gaps=True):
        source = random.Random(seed)
        for _ in range(150):
            colours = some_colours(source, gaps)
            yield source, colours, sheet_of(colours)

    def test_filled(self):
        self.assertEqual(filled((-2, 1, 3, 4), 7), ((1, 5, ((-2, 1, 7),)),))

    def test_laid(self):
        for source, colours, sheet in self.sheets(1):
            over = some_colours(source)
            self.assertEqual(laid(sheet, sheet_of(over)), sheet_of(colours | over))
            self.assertEqual(laid(sheet, ()), sheet)
            self.assertEqual(laid((), sheet), sheet)

    def test_laid_over_some_rows(self):
        for source, colours, sheet in self.sheets(10):
            top, bottom = source.randint(0, 3), source.randint(0, 3)
            even = {at: colour for at, colour in colours.items() if at[1] % 2}
            for over in (some_colours(source), {(x, y): 5 for x in range(-2, 3) for y in range(4)}):
                over = {at: colour for at, colour in over.items() if top <= at[1] <= bottom}
                self.assertEqual(laid(sheet, sheet_of(over)), sheet_of(colours | over))
                self.assertEqual(laid(sheet_of(even), sheet_of(over)), sheet_of(even | over))

    def test_rows_that_become_the_same_are_joined(self):
        rows = [filled((0, y, 5, 1), 1) for y in range(3)]
        self.assertEqual(laid(rows[0], rows[1]), filled((0, 0, 5, 2), 1))
        self.assertEqual(laid(rows[1], rows[0]), filled((0, 0, 5, 2), 1))
        self.assertEqual(laid(laid(rows[0], rows[2]), rows[1]), filled((0, 0, 5, 3), 1))
        self.assertEqual(laid(filled((0, 0, 5, 3), 1), rows[1]), filled((0, 0, 5, 3), 1))

    def test_laid_in_turn(self):
        self.assertEqual(laid_in_turn([]), ())
        for source, colours, sheet in self.sheets(2):
            all_of_them = [colours] + [some_colours(source) for _ in range(source.randint(0, 4))]
            expected = {place: colour for each in all_of_them for place, colour in each.items()}
            self.assertEqual(laid_in_turn([sheet_of(each) for each in all_of_them]), sheet_of(expected))

    def test_cut(self):
        for source, colours, sheet in self.sheets(3):
            rect = (source.randint(-3, 3), source.randint(-1, 4), source.randint(1, 6), source.randint(1, 5))
            inside = points_of(rect)
            self.assertEqual(cut(sheet, rect), sheet_of({at: colours[at] for at in colours if at in inside}))

    def test_turned(self):
        for _, colours, sheet in self.sheets(4):
            for pairs in ((), ((0, 1),), ((0, 1), (1, 0)), ((1, 5), (2, 5)), ((5, 0),)):
                new = {at: dict(pairs).get(colours[at], colours[at]) for at in colours}
                self.assertEqual(turned(sheet, pairs), sheet_of(new))

    def test_without(self):
        for _, colours, sheet in self.sheets(5):
            for unwanted in (0, 1, 5, 9, None):
                self.assertEqual(
                    without(sheet, unwanted), sheet_of({at: colours[at] for at in colours if colours[at] != unwanted}))

    def test_taken(self):
        for source, colours, sheet in self.sheets(6):
            for across, down in itertools.product((False, True), repeat=2):
                mirror = Mirror(source.randint(-3, 3), source.randint(-3, 3), across=across, down=down)
                self.assertEqual(taken(sheet, mirror), sheet_of({mirror(*at): colours[at] for at in colours}))

    def test_colours_of_places(self):
        for _, colours, sheet in self.sheets(7, gaps=False):
            self.assertEqual({at: colour_at(sheet, *at) for at in colours}, colours)

    def test_areas(self):
        for _, colours, sheet in self.sheets(8):
            areas = areas_of(sheet)
            self.assertEqual(list(areas), sorted(set(colours.values())))
            for colour in areas:
                expected = Region(*[(x, y, 1, 1) for x, y in colours if colours[x, y] == colour])
                self.assertEqual(region_of(areas[colour]), expected)

    def test_unlike(self):
        for source, colours, sheet in self.sheets(9, gaps=False):
            other = some_colours(source, gaps=False)
            expected = Region(*[(x, y, 1, 1) for x, y in colours if colours[x, y] != other[x, y]])
            self.assertEqual(region_of(unlike_bands(sheet, sheet_of(other))), expected)


if __name__ == "__main__":
    unittest.main()
