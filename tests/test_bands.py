import random
import unittest

import slow
from allscreens import bands as bands_module
from allscreens.bands import bands
from allscreens.errors import DifferentStages, InvalidNumber, InvalidSurface, NotAPicture, NotAScript
from allscreens.painting import paint
from allscreens.pictures import Picture
from allscreens.regions import Region
from allscreens.scripts import Script
from helpers import BOUND, NOT_INTEGERS, NOT_SURFACES, ODD_VALUES, STAGE, check_raises, raised_by, run_example
from test_painting import some_picture

EXAMPLE = """
>>> from allscreens.bands import bands
>>> from allscreens.pictures import Picture
>>> from allscreens.scripts import Script
>>> stage = (("a", 3, 5),)
>>> script = Script(stage, (("fill", "a", (0, 0, 2, 3), 5),))
>>> rows = list(bands(script, Picture(stage), "a", 2))
>>> [len(rows), rows[0][0], rows[0][1][1][0], rows[0][1][1][1].rects, rows[1][0], rows[1][1][0][1].rects, rows[2][1][0][1].rects]
[3, 0, 5, ((0, 0, 2, 2),), 2, ((2, 2, 1, 1), (0, 3, 3, 1)), ((0, 4, 3, 1),)]
"""

SMALL = (("a", 4, 3), ("b", 3, 7))


def first(*arguments, **named):
    """The first band that is asked for."""
    return next(bands(*arguments, **named))


class BandsTest(unittest.TestCase):
    def check(self, script, picture, surface, height):
        end = paint(script, picture)
        _, width, rows = [each for each in script.stage if each[0] == surface][0]
        found = list(bands(script, picture, surface, height))
        self.assertEqual([y for y, _ in found], list(range(0, rows, height)))
        for y, areas in found:
            band = Region((0, y, width, min(height, rows - y)))
            expected = tuple((colour, region & band) for colour, region in end.areas(surface) if region & band)
            self.assertEqual(areas, expected)
            self.assertEqual((type(areas), {type(pair) for pair in areas}), (tuple, {tuple}))
            self.assertEqual(sum(region.points for _, region in areas), band.points)
        self.assertTrue(all(type(pair) is tuple and len(pair) == 2 for pair in found))
        return found

    def test_beside_the_painted_picture(self):
        source = random.Random(1)
        for many in range(7):
            for seed in range(8):
                script = Script(SMALL, slow.some_orders(source, SMALL, many, 2))
                picture, colours = some_picture(random.Random(seed), SMALL)
                for surface, _, rows in SMALL:
                    for height in (1, 2, 3, rows - 1, rows, rows + 1, 100, BOUND):
                        self.check(script, picture, surface, height)
                self.assertEqual(picture, Picture.of_cells(SMALL, tuple(colours.items())))

    def test_the_last_band_is_lower(self):
        stage = (("a", 2, 7),)
        script = Script(stage, (("fill", "a", (0, 6, 1, 1), 5),))
        for height, last in ((1, 6), (2, 6), (3, 6), (4, 4), (5, 5), (6, 6)):
            found = self.check(script, Picture(stage), "a", height)
            self.assertEqual(found[-1][0], last)
            self.assertEqual(sum(region.points for _, region in found[-1][1]), 2 * (7 - last))
        for height in (7, 8, 9, 10 ** 6, BOUND):
            self.assertEqual(self.check(script, Picture(stage), "a", height)[0], (0, (
                (0, Region((0, 0, 2, 7)) - Region((0, 6, 1, 1))), (5, Region((0, 6, 1, 1))))))

    def test_only_the_first_ones_of_very_many(self):
        stage = (("a", BOUND, BOUND), ("b", 3, BOUND))
        script = Script(stage, (("fill", "a", (5, 1, BOUND, 3), 7), ("copy", "a", (4, 0, 3, BOUND), "b", 0, 0, "down", None)))
        rows = bands(script, Picture(stage), "a", 1)
        self.assertEqual(next(rows), (0, ((0, Region((0, 0, BOUND, 1))),)))
        self.assertEqual(next(rows), (1, ((0, Region((0, 1, 5, 1))), (7, Region((5, 1, BOUND - 5, 1))))))
        self.assertEqual([next(rows)[0] for _ in range(3)], [2, 3, 4])
        self.assertEqual(next(rows), (5, ((0, Region((0, 5, BOUND, 1))),)))
        half = list(bands(script, Picture(stage), "b", BOUND // 2))
        self.assertEqual([y for y, _ in half], [0, BOUND // 2])
        self.assertEqual(half[1][1][1], (7, Region((1, BOUND - 4, 2, 3))))

    def test_several_at_a_time(self):
        script = Script(SMALL, (("fill", "b", (0, 0, 2, 4), 5),))
        one, other = bands(script, Picture(SMALL), "b", 2), bands(script, Picture(SMALL), "b", 2)
        self.assertEqual([next(one), next(one)], [next(other), next(other)])
        whole = list(bands(script, Picture(SMALL), "b", 2))
        self.assertEqual(list(one), whole[2:])
        self.assertEqual(list(other), whole[2:])
        self.assertEqual(list(bands(height=2, surface="b", picture=Picture(SMALL), script=script)), whole)
        self.assertIs(iter(one), one)


class ErrorsTest(unittest.TestCase):
    script, picture, elsewhere = Script(STAGE), Picture(STAGE), Picture((("a", 3, 5),))

    def test_at_the_latest_when_the_first_band_is_asked_for(self):
        for value in ODD_VALUES + (0, STAGE, (), Script, "fill a 0 0 1 1 5"):
            check_raises(self, NotAScript, value, first, value, self.picture, "a", 1)
            check_raises(self, NotAScript, value, first, value, None, None, None)
            check_raises(self, NotAPicture, value, first, self.script, value, "a", 1)
            check_raises(self, NotAPicture, value, first, self.script, value, "c", 0)
            check_raises(self, NotAPicture, value, first, picture=value, script=self.script, height=1, surface="a")
        for value in NOT_SURFACES:
            check_raises(self, InvalidSurface, value, first, self.script, self.picture, value, 1)
            check_raises(self, InvalidSurface, value, first, self.script, self.elsewhere, value, 0)
        for value in NOT_INTEGERS + (0, -1, BOUND + 1, -BOUND, 10 ** 39, -10 ** 39):
            check_raises(self, InvalidNumber, value, first, self.script, self.picture, "a", value)
            check_raises(self, InvalidNumber, value, first, self.script, self.elsewhere, "a", value)

    def test_different_stages_behind_them(self):
        self.assertEqual(vars(raised_by(self, DifferentStages, first, self.script, self.elsewhere, "a", 1)), {})
        # The surface belongs to the stage of the script.
        raised_by(self, DifferentStages, first, self.script, self.elsewhere, "b", BOUND)
        check_raises(self, InvalidSurface, "b", first, Script(self.elsewhere.stage), self.picture, "b", 1)

    def test_the_interface_is_defined_here(self):
        self.assertEqual(bands_module.bands.__module__, "allscreens.bands")

    def test_the_example_of_the_document(self):
        run_example(self, EXAMPLE)


if __name__ == "__main__":
    unittest.main()
