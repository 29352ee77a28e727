import itertools
import random
import unittest

import slow
import slow_forms
from allscreens.scripts import Script
from allscreens.even import even_lists
from helpers import BOUND, points_of

SMALL = (("a", 4, 3), ("b", 3, 4))


def ways_back(strokes, cell):
    """What happens to the ways back from a cell: a tuple with whether each stands at a written cell, and the ends."""
    ways, told = [cell], []
    for stroke in strokes[::-1]:
        found = []
        for way in ways:
            source = slow_forms.source_in(stroke, way)
            told.append(source is not None)
            if source is None or stroke[0] == "recolour":
                found.append(way)
            elif stroke[0] == "copy":
                found += [source] if stroke[7] is None else [way, source]
        ways = found
    return tuple(told), ways


def meetings(ends):
    """Which of the ends are the same cell."""
    return tuple(one == other for one, other in itertools.combinations(ends, 2))


def told_of(scripts, cell):
    """All that is to be the same for the cells of an even rectangle."""
    found = [ways_back(strokes, cell) for strokes in scripts]
    return [told for told, _ in found], meetings([end for _, ends in found for end in ends])


def even_rects(stage, name, scripts):
    width, height = {surface: size for surface, *size in stage}[name]
    return [rect for rects in even_lists((0, 0, width, height), name, scripts) for rect in rects]


class EvenTest(unittest.TestCase):
    def check(self, stage, scripts):
        with self.subTest(scripts=scripts):
            for name, width, height in stage:
                groups = even_lists((0, 0, width, height), name, scripts)
                rects = [rect for group in groups for rect in group]
                points = [point for rect in rects for point in points_of(rect)]
                self.assertEqual(sorted(points), [(x, y) for x in range(width) for y in range(height)])
                self.assertGreater(min(min(rect[2:]) for rect in rects), 0)
                for group in groups:
                    self.assertGreater(len(group), 0)
                    found = [told_of(scripts, (name, x, y)) for rect in group for x, y in sorted(points_of(rect))]
                    self.assertEqual(found, found[:1] * len(found))

    def test_one_script(self):
        source = random.Random(1)
        for many in range(8):
            for _ in range(40):
                self.check(SMALL, [Script(SMALL, slow.some_orders(source, SMALL, many)).strokes])

    def test_two_scripts_and_none(self):
        source = random.Random(2)
        for _ in range(100):
            scripts = [Script(SMALL, slow.some_orders(source, SMALL, 3)).strokes for _ in range(2)]
            self.check(SMALL, scripts)
            self.check(SMALL, [scripts[0], ()])

    def test_copies_onto_the_surface_that_is_read(self):
        for mirror, key in itertools.product(("none", "across", "down", "both"), (None, 7)):
            copies = [("copy", "a", (0, 0, 4, 3), "a", x, 0, mirror, key) for x in (0, 1)]
            self.check(SMALL, [Script(SMALL, tuple(copies)).strokes])
            self.check(SMALL, [Script(SMALL, (copies[0],)).strokes, ()])

    def test_the_examples_of_point_18(self):
        stage = (("a", 5, 2),)
        fill = Script(stage, (("fill", "a", (0, 0, 2, 2), 5),)).strokes
        self.assertEqual(sorted(even_rects(stage, "a", [fill])), [(0, 0, 2, 2), (2, 0, 3, 2)])
        flip = Script(stage, (("copy", "a", (0, 0, 5, 2), "a", 0, 0, "across", 4),)).strokes
        self.assertIn((2, 0, 1, 2), even_rects(stage, "a", [flip]))

    def test_without_strokes(self):
        stage = (("a", BOUND, BOUND),)
        self.assertEqual(even_rects(stage, "a", [()]), [(0, 0, BOUND, BOUND)])
        self.assertEqual(even_rects(stage, "a", [(), ()]), [(0, 0, BOUND, BOUND)])
        self.assertEqual(even_rects(stage, "a", []), [(0, 0, BOUND, BOUND)])


if __name__ == "__main__":
    unittest.main()
