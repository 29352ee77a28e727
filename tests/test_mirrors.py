import itertools
import random
import unittest

from allscreens.errors import InvalidNumber, InvalidRect
from allscreens.mirrors import Mirror
from helpers import BOUND, NOT_INTEGERS, NOT_RECTS, ODD_VALUES, check_raises, points_of, run_example

EXAMPLE = """
>>> from allscreens.mirrors import Mirror
>>> one, other = Mirror(7, 1, across=True), Mirror(1, 1)
>>> [one(2, 3), one.image((0, 0, 3, 2)), one.meets(other, (0, 0, 8, 2)), (one * other)(2, 3), ~other == Mirror(-1, -1), one * one == Mirror(0, 2)]
[(5, 4), (5, 1, 3, 2), (3, 0, 1, 2), (4, 5), True, True]
"""

WAYS = ((False, False), (True, False), (False, True), (True, True))

GREAT = 10 ** 40 - 1


def mirrors_at(numbers):
    return [
        Mirror(x, y, across=across, down=down)
        for x, y in itertools.product(numbers, numbers) for across, down in WAYS
    ]


def told(x, y, across, down, point):
    """Where the document says that a point is taken."""
    u, v = point
    if across and down:
        return (x - u, y - v)
    if across:
        return (x - u, y + v)
    if down:
        return (x + u, y - v)
    return (x + u, y + v)


SMALL_RECTS = [
    (x, y, width, height)
    for x, y in ((0, 0), (-2, 1), (1, -3)) for width, height in itertools.product(range(4), range(4))
]


class CallTest(unittest.TestCase):
    def test_small_numbers(self):
        for x, y, (across, down) in itertools.product(range(-2, 3), range(-2, 3), WAYS):
            mirror = Mirror(x, y, across=across, down=down)
            for point in itertools.product(range(-3, 4), range(-3, 4)):
                self.assertEqual(mirror(*point), told(x, y, across, down, point))

    def test_great_numbers(self):
        numbers = (GREAT, -GREAT, 10 ** 39 + 7, 0, -1)
        for x, y, (across, down) in itertools.product(numbers, numbers, WAYS):
            mirror = Mirror(x, y, across=across, down=down)
            for point in itertools.product(numbers, numbers):
                self.assertEqual(mirror(*point), told(x, y, across, down, point))

    def test_by_name(self):
        self.assertEqual(Mirror(x=3, y=4)(u=1, v=2), (4, 6))
        self.assertEqual(Mirror(y=4, x=3, down=True, across=True)(v=2, u=1), (2, 2))
        self.assertEqual(Mirror(3, 4, across=True)(1, 2), (2, 6))
        self.assertEqual(Mirror(3, 4, down=True)(1, 2), (4, 2))
        self.assertEqual(Mirror(3, 4, across=False, down=False)(1, 2), (4, 6))

    def test_how_to_mirror_is_passed_by_name_only(self):
        with self.assertRaises(TypeError):
            Mirror(1, 2, True)

    def test_what_is_not_an_integer(self):
        for value in NOT_INTEGERS:
            for other in (0, -GREAT, None, True):
                check_raises(self, InvalidNumber, value, Mirror, value, other)
            check_raises(self, InvalidNumber, value, Mirror, 0, value)
            check_raises(self, InvalidNumber, value, Mirror, GREAT, value, across=True)
            check_raises(self, InvalidNumber, value, Mirror, x=value, y=value, down=True)
            check_raises(self, InvalidNumber, value, Mirror, y=value, x=1)

    def test_the_class_has_all_that_the_document_lists(self):
        for name in ("__init__", "__call__", "image", "__mul__", "__invert__", "meets", "__eq__", "__repr__"):
            self.assertIn(name, vars(Mirror))
        self.assertEqual(Mirror.__module__, "allscreens.mirrors")
        self.assertIs(bool(Mirror(0, 0)), True)

    def test_the_example_of_the_document(self):
        run_example(self, EXAMPLE)


class ImageTest(unittest.TestCase):
    def test_points(self):
        for mirror in mirrors_at((-2, 0, 3)):
            for rect in SMALL_RECTS:
                image = mirror.image(rect)
                self.assertEqual(image[2:], rect[2:])
                self.assertEqual(points_of(image), {mirror(*point) for point in points_of(rect)})

    def test_the_first_elements_are_as_told_also_without_points(self):
        for x, y, width, height in SMALL_RECTS + [(BOUND, -BOUND, BOUND, 0), (-BOUND, BOUND, 0, BOUND)]:
            for at, to in ((5, 7), (0, -1), (GREAT, -GREAT)):
                rect = (x, y, width, height)
                left, right = at + x, at - x - width + 1
                top, bottom = to + y, to - y - height + 1
                self.assertEqual(Mirror(at, to).image(rect), (left, top, width, height))
                self.assertEqual(Mirror(at, to, across=True).image(rect), (right, top, width, height))
                self.assertEqual(Mirror(at, to, down=True).image(rect), (left, bottom, width, height))
                self.assertEqual(Mirror(at, to, across=True, down=True).image(rect), (right, bottom, width, height))

    def test_beyond_the_bounds(self):
        self.assertEqual(Mirror(BOUND, 0).image((BOUND, 0, BOUND, 1)), (2 * BOUND, 0, BOUND, 1))
        self.assertEqual(
            Mirror(-BOUND, 0, across=True).image(rect=(BOUND, 0, BOUND, 1)), (1 - 3 * BOUND, 0, BOUND, 1))

    def test_errors(self):
        for value in NOT_RECTS:
            check_raises(self, InvalidRect, value, Mirror(1, 2, across=True).image, value)
            check_raises(self, InvalidRect, value, Mirror(1, 2).image, rect=value)


class ComposedTest(unittest.TestCase):
    def check_same(self, one, other, points):
        self.assertEqual([one(*point) for point in points], [other(*point) for point in points])
        self.assertIs(one == other, True)

    def test_one_behind_the_other(self):
        points = list(itertools.product((-3, 0, 1), (-1, 0, 5)))
        for one, other in itertools.product(mirrors_at((-2, 0, 3)), repeat=2):
            both = one * other
            self.assertIs(type(both), Mirror)
            self.assertEqual([both(*point) for point in points], [one(*other(*point)) for point in points])

    def test_great_numbers(self):
        for one, other in itertools.product(mirrors_at((GREAT, -10 ** 39)), repeat=2):
            self.assertEqual((one * other)(GREAT, -GREAT), one(*other(GREAT, -GREAT)))

    def test_three_in_either_grouping(self):
        points = list(itertools.product((-3, 0, 1), (-1, 0, 5)))
        source = random.Random(3)
        maps = mirrors_at((-2, 0, 3, GREAT))
        for _ in range(500):
            one, two, three = source.choice(maps), source.choice(maps), source.choice(maps)
            self.check_same((one * two) * three, one * (two * three), points)
            self.assertEqual((one * two * three)(2, 7), one(*two(*three(2, 7))))

    def test_back_in_both_turns(self):
        points = list(itertools.product((-3, 0, 1), (-1, 0, 5)))
        for mirror in mirrors_at((-2, 0, 3, GREAT, -GREAT)):
            self.assertIs(type(~mirror), Mirror)
            self.check_same(mirror * ~mirror, Mirror(0, 0), points)
            self.check_same(~mirror * mirror, Mirror(0, 0), points)
            self.check_same(~~mirror, mirror, points)
            self.assertEqual([(~mirror)(*mirror(*point)) for point in points], points)

    def test_nothing_is_changed(self):
        one, other = Mirror(1, 2, across=True), Mirror(3, 4)
        one * other, ~one, one.meets(other, (0, 0, 1, 1)), one.image((0, 0, 1, 1))
        self.assertEqual([repr(one), repr(other)], ["Mirror(1, 2, across)", "Mirror(3, 4)"])
        self.assertEqual(one * other, one * other)


class MeetsTest(unittest.TestCase):
    def test_point_by_point(self):
        for one, other in itertools.product(mirrors_at((-1, 0, 2)), repeat=2):
            for rect in SMALL_RECTS:
                agreed = {point for point in points_of(rect) if one(*point) == other(*point)}
                found = one.meets(other, rect)
                if found is None:
                    self.assertEqual(agreed, set())
                else:
                    self.assertIs(type(found), tuple)
                    self.assertEqual(points_of(found), agreed)
                    self.assertNotEqual(agreed, set())

    def test_every_column_and_row(self):
        for x in range(-3, 12):
            agreed = [u for u in range(5) if x - u == u]
            found = Mirror(x, 0, across=True).meets(Mirror(0, 0), (0, 0, 5, 3))
            self.assertEqual(found, (agreed[0], 0, 1, 3) if agreed else None)
            self.assertEqual(Mirror(0, 0).meets(Mirror(x, 0, across=True), (0, 0, 5, 3)), found)
            turned = Mirror(0, x, down=True).meets(Mirror(0, 0), (0, 0, 3, 5))
            self.assertEqual(turned, (0, agreed[0], 3, 1) if agreed else None)
            self.assertEqual(Mirror(0, 0).meets(Mirror(0, x, down=True), (0, 0, 3, 5)), turned)

    def test_great_rectangles(self):
        rect = (-BOUND, -BOUND, BOUND, BOUND)
        still = Mirror(0, 0)
        self.assertEqual(still.meets(Mirror(0, 0), rect), rect)
        self.assertIsNone(still.meets(Mirror(1, 0), rect))
        self.assertIsNone(still.meets(Mirror(0, -1), rect))
        middle = -BOUND // 2
        self.assertEqual(still.meets(Mirror(-BOUND, 0, across=True), rect), (middle, -BOUND, 1, BOUND))
        self.assertEqual(still.meets(Mirror(0, -BOUND, down=True), rect), (-BOUND, middle, BOUND, 1))
        self.assertEqual(Mirror(0, 0, across=True).meets(Mirror(BOUND, -BOUND, down=True), rect), (middle, middle, 1, 1))
        self.assertEqual(still.meets(Mirror(-BOUND, -BOUND, across=True, down=True), rect), (middle, middle, 1, 1))
        self.assertIsNone(still.meets(Mirror(1 - BOUND, 0, across=True), rect))
        self.assertIsNone(still.meets(Mirror(0, 1 - BOUND, down=True), rect))
        self.assertEqual(still.meets(Mirror(-2 * BOUND, 0, across=True), rect), (-BOUND, -BOUND, 1, BOUND))
        self.assertEqual(still.meets(Mirror(-2, 0, across=True), rect), (-1, -BOUND, 1, BOUND))
        self.assertIsNone(still.meets(Mirror(0, 0, across=True), rect))
        self.assertIsNone(still.meets(Mirror(-2 * BOUND - 2, 0, across=True), rect))

    def test_great_numbers(self):
        one, other = Mirror(GREAT, GREAT, across=True), Mirror(GREAT, GREAT)
        self.assertEqual(one.meets(other, (-1, 0, 3, 3)), (0, 0, 1, 3))
        self.assertEqual(one.meets(one, (-1, 0, 3, 3)), (-1, 0, 3, 3))
        self.assertIsNone(one.meets(Mirror(-GREAT, GREAT), (-BOUND, 0, BOUND, 3)))

    def test_rectangles_without_points(self):
        for one, other in itertools.product(mirrors_at((0, 2)), repeat=2):
            for rect in ((0, 0, 0, 3), (0, 0, 3, 0), (1, 1, 0, 0)):
                self.assertIsNone(one.meets(other, rect))

    def test_by_name(self):
        self.assertEqual(Mirror(0, 0).meets(other_mirror=Mirror(2, 0, across=True), rect=(0, 0, 5, 3)), (1, 0, 1, 3))
        self.assertEqual(Mirror(0, 0).meets(rect=(0, 0, 5, 3), other_mirror=Mirror(0, 0)), (0, 0, 5, 3))

    def test_errors(self):
        for value in NOT_RECTS:
            check_raises(self, InvalidRect, value, Mirror(1, 2).meets, Mirror(1, 2), value)
            check_raises(self, InvalidRect, value, Mirror(1, 2).meets, other_mirror=Mirror(9, 9), rect=value)


class EqualityTest(unittest.TestCase):
    def test_every_two(self):
        maps = mirrors_at((-1, 0, 2, GREAT))
        again = mirrors_at((-1, 0, 2, GREAT))
        for (at, one), (to, other) in itertools.product(enumerate(maps), enumerate(again)):
            self.assertIs(one == other, at == to)
            self.assertIs(one != other, at != to)

    def test_other_values(self):
        for value in ODD_VALUES + (0, (0, 0), "Mirror(0, 0)", Mirror):
            self.assertIs(Mirror(0, 0) == value, False)
            self.assertIs(Mirror(0, 0) != value, True)

    def test_repr(self):
        self.assertEqual(repr(Mirror(0, -3)), "Mirror(0, -3)")
        self.assertEqual(repr(Mirror(7, 1, across=True)), "Mirror(7, 1, across)")
        self.assertEqual(repr(Mirror(7, 1, down=True)), "Mirror(7, 1, down)")
        self.assertEqual(repr(Mirror(-GREAT, GREAT, across=True, down=True)), f"Mirror({-GREAT}, {GREAT}, across, down)")
        self.assertEqual(str(Mirror(1, 2) * Mirror(1, 2, down=True)), "Mirror(2, 4, down)")
        self.assertEqual(repr(~Mirror(1, 2, down=True)), "Mirror(-1, 2, down)")


if __name__ == "__main__":
    unittest.main()
