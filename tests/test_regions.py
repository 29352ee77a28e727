import itertools
import random
import unittest

from allscreens.errors import InvalidRect, InvalidStage, InvalidSurface
from allscreens.regions import Region
from helpers import BOUND, NOT_RECTS, NOT_STAGES, ODD_VALUES, AlwaysEqual, points_of, run_example

SCALE = 10 ** 11

EXAMPLE = """
>>> from allscreens.regions import Region
>>> region = Region((0, 0, 4, 2), (2, 1, 4, 2))
>>> [region.rects, region.points, (5, 2) in region, (region - Region((0, 0, 6, 1))).rects, bool(region & Region((0, 2, 2, 5)))]
[((0, 0, 4, 1), (0, 1, 6, 1), (2, 2, 4, 1)), 14, True, ((0, 1, 6, 1), (2, 2, 4, 1)), False]
"""


def row_of(points, y):
    return sorted(x for x, at in points if at == y)


def stretches_of(xs):
    """The pairs (start, width) of the longest stretches of neighbours in an ascending list."""
    found = []
    for x in xs:
        if found and sum(found[-1]) == x:
            found[-1] = (found[-1][0], found[-1][1] + 1)
        else:
            found.append((x, 1))
    return found


def rects_by_points(points):
    """The list of point 8, made row by row from a set of points."""
    found = []
    band = []
    last = None
    for y in sorted({y for _, y in points}):
        stretches = stretches_of(row_of(points, y))
        if last == y - 1 and [(x, width) for x, _, width, _ in band] == stretches:
            band = [(x, top, width, height + 1) for x, top, width, height in band]
        else:
            found += band
            band = [(x, y, width, 1) for x, width in stretches]
        last = y
    return tuple(found + band)


def points_of_all(rects):
    return set().union(*[points_of(rect) for rect in rects])


def scaled(rects):
    return tuple(tuple(SCALE * number for number in rect) for rect in rects)


def subsets(cells):
    for many in range(len(cells) + 1):
        yield from (set(chosen) for chosen in itertools.combinations(cells, many))


def region_by_points(points):
    return Region(*[(x, y, 1, 1) for x, y in points])


def some_rects(source, many, least=-4, most=4, size=5):
    """A list of rectangles, some of them without points, the same for each run of the tests."""
    return [
        (source.randint(least, most), source.randint(least, most), source.randint(0, size), source.randint(0, size))
        for _ in range(many)
    ]


class RegionTest(unittest.TestCase):
    def check(self, region, points):
        """Check all that a region tells against the set of its points."""
        expected = rects_by_points(points)
        self.assertEqual(region.rects, expected)
        self.assertIs(type(region.rects), tuple)
        self.assertEqual(region.points, len(points))
        self.assertEqual(len(region), len(expected))
        self.assertIs(bool(region), len(points) > 0)
        self.assertEqual(repr(region), f"Region({len(expected)} rectangles, {len(points)} points)")

    def check_rects(self, *rects):
        with self.subTest(rects=rects):
            self.check(Region(*rects), points_of_all(rects))


class RectanglesTest(RegionTest):
    def test_no_rectangles(self):
        region = Region()
        self.assertEqual((region.rects, region.points, len(region), bool(region)), ((), 0, 0, False))

    def test_one_rectangle(self):
        region = Region((-2, 3, 4, 5))
        self.assertEqual((region.rects, region.points, len(region)), (((-2, 3, 4, 5),), 20, 1))
        self.check_rects((-2, 3, 4, 5))

    def test_rectangles_without_points(self):
        self.check_rects((1, 1, 0, 0))
        self.check_rects((1, 1, 0, 5), (1, 1, 5, 0))
        self.check_rects((0, 0, 4, 4), (2, 2, 0, 3))
        self.check_rects((2, 2, 3, 0), (0, 0, 4, 4))
        self.check_rects((0, 0, 2, 2), (2, 0, 0, 2), (3, 0, 2, 2))

    def test_one_in_another(self):
        self.check_rects((0, 0, 5, 5), (1, 1, 2, 2))
        self.check_rects((1, 1, 2, 2), (0, 0, 5, 5))
        self.check_rects((0, 0, 5, 5), (0, 0, 5, 5))
        self.check_rects((0, 0, 5, 5), (0, 0, 5, 2))

    def test_side_by_side(self):
        self.check_rects((0, 0, 2, 2), (2, 0, 3, 2))
        self.check_rects((2, 0, 3, 2), (0, 0, 2, 2))
        self.check_rects((0, 0, 2, 2), (3, 0, 3, 2))
        self.check_rects((0, 0, 2, 2), (2, 1, 3, 2))
        self.assertEqual(Region((0, 0, 2, 2), (2, 0, 3, 2)).rects, ((0, 0, 5, 2),))
        self.assertEqual(Region((0, 0, 2, 2), (2, 1, 3, 2)).rects, ((0, 0, 2, 1), (0, 1, 5, 1), (2, 2, 3, 1)))

    def test_over_one_another(self):
        self.check_rects((0, 0, 2, 2), (0, 2, 2, 3))
        self.check_rects((0, 2, 2, 3), (0, 0, 2, 2))
        self.check_rects((0, 0, 2, 2), (1, 2, 2, 3))
        self.check_rects((0, 0, 2, 2), (0, 3, 2, 3))
        self.check_rects((0, 0, 4, 4), (2, 2, 4, 4))
        self.check_rects((0, 2, 6, 2), (2, 0, 2, 6))

    def test_a_hole(self):
        region = Region((0, 0, 5, 1), (0, 0, 1, 4), (4, 0, 1, 4), (0, 4, 5, 1))
        self.assertEqual(region.rects, ((0, 0, 5, 1), (0, 1, 1, 3), (4, 1, 1, 3), (0, 4, 5, 1)))

    def test_rows_with_the_same_points_belong_to_one_band(self):
        self.assertEqual(Region((0, 0, 2, 1), (0, 1, 2, 1), (0, 2, 2, 4)).rects, ((0, 0, 2, 6),))
        self.assertEqual(Region((0, 0, 2, 3), (0, 2, 2, 3)).rects, ((0, 0, 2, 5),))
        several = ((0, 0, 1, 2), (1, 0, 1, 1), (1, 1, 1, 2), (0, 2, 1, 1), (5, 0, 2, 1), (5, 1, 1, 2), (6, 1, 1, 2))
        self.assertEqual(Region(*several).rects, ((0, 0, 2, 3), (5, 0, 2, 3)))
        self.check_rects(*several)

    def test_rows_with_the_same_points_that_do_not_touch(self):
        self.assertEqual(Region((0, 0, 2, 1), (0, 2, 2, 1)).rects, ((0, 0, 2, 1), (0, 2, 2, 1)))
        rects = ((0, 0, 2, 3), (0, 1, 3, 1))
        self.assertEqual(Region(*rects).rects, ((0, 0, 2, 1), (0, 1, 3, 1), (0, 2, 2, 1)))

    def test_every_small_region(self):
        for points in subsets(list(itertools.product(range(-1, 2), range(-1, 2)))):
            self.check(region_by_points(points), points)

    def test_every_two_small_rectangles(self):
        numbers = [(at, size) for at in (0, 1, 2) for size in (0, 1, 2)]
        rects = [(x, y, width, height) for (x, width), (y, height) in itertools.product(numbers, numbers)]
        for one, other in itertools.combinations_with_replacement(rects, 2):
            self.check(Region(one, other), points_of(one) | points_of(other))
            self.check(Region(other, one), points_of(one) | points_of(other))

    def test_many_rectangles(self):
        source = random.Random(8)
        for many in range(12):
            for _ in range(20):
                self.check_rects(*some_rects(source, many))

    def test_many_great_rectangles(self):
        source = random.Random(9)
        for many in range(12):
            rects = some_rects(source, many)
            region = Region(*scaled(rects))
            self.assertEqual(region.rects, scaled(rects_by_points(points_of_all(rects))))
            self.assertEqual(region.points, SCALE * SCALE * len(points_of_all(rects)))

    def test_numbers_at_the_bounds(self):
        region = Region((-BOUND, 0, BOUND, 1), (0, 0, BOUND, 1), (BOUND, 0, BOUND, 1), (BOUND, BOUND, 7, BOUND))
        self.assertEqual(region.rects, ((-BOUND, 0, 3 * BOUND, 1), (BOUND, BOUND, 7, BOUND)))
        self.assertEqual(region.points, 3 * BOUND + 7 * BOUND)
        self.assertEqual(repr(region), "Region(2 rectangles, 10000000000000 points)")

    def test_what_is_returned_belongs_to_the_caller(self):
        rects = ((0, 0, 4, 2), (2, 1, 4, 2))
        region = Region(*rects)
        self.assertEqual(Region(*region.rects).rects, region.rects)
        self.assertEqual(region.rects, region.rects)
        self.assertEqual(rects, ((0, 0, 4, 2), (2, 1, 4, 2)))

    def test_the_example_of_the_document(self):
        run_example(self, EXAMPLE)

    def test_the_class_has_all_that_the_document_lists(self):
        for name in ("__init__", "of_surface", "rects", "points", "__contains__", "__len__", "__or__", "__and__",
                     "__sub__", "__eq__", "__repr__"):
            self.assertIn(name, vars(Region))
        self.assertIsInstance(vars(Region)["of_surface"], classmethod)
        self.assertIsInstance(vars(Region)["rects"], property)
        self.assertIsInstance(vars(Region)["points"], property)
        self.assertEqual(Region.__module__, "allscreens.regions")


class ErrorsTest(unittest.TestCase):
    def check_error(self, value, *rects):
        with self.subTest(rects=rects):
            with self.assertRaises(InvalidRect) as caught:
                Region(*rects)
            self.assertIs(type(caught.exception), InvalidRect)
            self.assertIs(caught.exception.value, value)

    def test_what_is_not_a_rectangle(self):
        good = (0, 0, 1, 1)
        bad = (0, 0, 1)
        for value in NOT_RECTS:
            self.check_error(value, value)
            self.check_error(value, good, value)
            self.check_error(value, value, good)
            self.check_error(value, good, value, bad, good)
            self.check_error(value, value, value)

    def test_a_list_of_rectangles_is_not_a_rectangle(self):
        rects = [(0, 0, 1, 1), (0, 0, 1, 1)]
        self.check_error(rects, rects)

    def test_rectangles_beyond_the_bounds(self):
        region = Region((0, 0, BOUND, 1), (BOUND, 0, 1, 1))
        self.assertEqual(region.rects, ((0, 0, BOUND + 1, 1),))
        rect = region.rects[0]
        self.check_error(rect, rect)


class InTest(unittest.TestCase):
    def test_points(self):
        for points in subsets(list(itertools.product(range(3), range(2)))):
            region = region_by_points(points)
            for point in itertools.product(range(-1, 4), range(-1, 3)):
                self.assertIs(point in region, point in points)
                self.assertIs(point not in region, point not in points)

    def test_points_of_great_rectangles(self):
        region = Region((-BOUND, -BOUND, BOUND, BOUND), (BOUND, 5, BOUND, 1))
        for point in ((-BOUND, -BOUND), (-1, -1), (-BOUND, -1), (BOUND, 5), (2 * BOUND - 1, 5)):
            self.assertIs(point in region, True)
        for point in ((0, -1), (-1, 0), (-BOUND - 1, -1), (-1, -BOUND - 1), (BOUND - 1, 5), (BOUND, 4), (BOUND, 6),
                      (2 * BOUND, 5), (10 ** 39, 10 ** 39), (-10 ** 39, 5)):
            self.assertIs(point in region, False)

    def test_other_values(self):
        region = Region((-5, -5, 10, 10))
        self.assertIs((1, 1) in region, True)
        others = ODD_VALUES + (
            0, 1, (), (1,), (1, 1, 1), (1, 1, 1, 1), (-5, -5, 10, 10), [1, 1], "11", b"11", {0, 1}, {1: 1, 0: 0},
            (True, 1), (1, True), (False, 0), (0, False), (True, False), ("1", 1), (1, "1"), (None, 1), (1, None),
            ((1, 1),), ((1, 1), (1, 1)), ((1,), (1,)), ([1], 1), (1, [1]), region, Region((1, 1, 1, 1)),
            (1, AlwaysEqual()), (AlwaysEqual(), 1),
        )
        for value in others:
            with self.subTest(value=value):
                self.assertIs(value in region, False)
                self.assertIs(value in Region(), False)


class JoiningTest(RegionTest):
    def check_both(self, rects, other_rects):
        """Check all three signs beside sets of points, also with all numbers 10 ** 11 times as great."""
        one, other = Region(*rects), Region(*other_rects)
        great, other_great = Region(*scaled(rects)), Region(*scaled(other_rects))
        points, other_points = points_of_all(rects), points_of_all(other_rects)
        before = (one.rects, other.rects, great.rects, other_great.rects)
        self.check(one | other, points | other_points)
        self.check(one & other, points & other_points)
        self.check(one - other, points - other_points)
        self.check_great(great | other_great, points | other_points)
        self.check_great(great & other_great, points & other_points)
        self.check_great(great - other_great, points - other_points)
        self.assertEqual((one.rects, other.rects, great.rects, other_great.rects), before)

    def check_great(self, region, points):
        self.assertIs(type(region), Region)
        expected = scaled(rects_by_points(points))
        self.assertEqual(region.rects, expected)
        self.assertEqual(region.points, SCALE * SCALE * len(points))
        self.assertEqual((len(region), bool(region)), (len(expected), len(expected) > 0))

    def test_every_two_small_regions(self):
        sets = [*subsets(list(itertools.product(range(2), range(3)))), *subsets([(x, 0) for x in range(-2, 3)])]
        regions = [(region_by_points(points), points) for points in sets]
        for (one, points), (other, other_points) in itertools.product(regions, regions):
            self.check(one | other, points | other_points)
            self.check(one & other, points & other_points)
            self.check(one - other, points - other_points)

    def test_every_two_small_great_regions(self):
        for points, other_points in itertools.product(subsets(list(itertools.product(range(2), range(2)))), repeat=2):
            self.check_both([(x, y, 1, 1) for x, y in points], [(x, y, 1, 1) for x, y in other_points])

    def test_many_regions(self):
        source = random.Random(10)
        for _ in range(150):
            self.check_both(some_rects(source, source.randint(0, 6)), some_rects(source, source.randint(0, 6)))

    def test_with_itself_and_with_none(self):
        region, empty = Region((0, 0, 4, 2), (2, 1, 4, 2)), Region()
        for found in (region | region, region & region, region | empty, empty | region, region - empty):
            self.assertEqual(found.rects, region.rects)
        for found in (region - region, region & empty, empty & region, empty - region, empty | empty, empty - empty):
            self.assertEqual(found.rects, ())

    def test_none_of_the_regions_is_changed(self):
        one, other = Region((0, 0, 4, 2), (2, 1, 4, 2)), Region((1, 0, 2, 5))
        kept = one
        before = (one.rects, other.rects)
        for joined in (one | other, one & other, one - other):
            self.assertIsNot(joined, one)
            self.assertIsNot(joined, other)
        self.assertEqual((one.rects, other.rects), before)
        one |= other
        self.assertEqual((kept.rects, other.rects), before)
        self.assertEqual(one.rects, (kept | other).rects)

    def test_joined_again(self):
        one, other = Region((0, 0, 4, 4)), Region((2, 2, 4, 4))
        parts = (one - other) | (other - one) | (one & other)
        self.assertEqual(parts.rects, (one | other).rects)
        self.assertEqual(((one | other) - one).rects, (other - one).rects)

    def test_rectangles_beyond_the_bounds(self):
        left, right = Region((-BOUND, -BOUND, BOUND, 5)), Region((0, -BOUND, BOUND, 5))
        both = left | right
        self.assertEqual(both.rects, ((-BOUND, -BOUND, 2 * BOUND, 5),))
        self.assertEqual((both - left).rects, right.rects)
        self.assertEqual((both & both).rects, both.rects)
        self.assertEqual((both | Region((BOUND, -BOUND, BOUND, 5))).rects, ((-BOUND, -BOUND, 3 * BOUND, 5),))

    def test_a_comb_of_great_rectangles(self):
        teeth = [(at * 10 ** 9, 0, 10 ** 9 - 1, BOUND) for at in range(300)]
        bars = [(0, at * 10 ** 9, BOUND, 1) for at in range(300)]
        crossings = Region(*teeth) & Region(*bars)
        self.assertEqual((len(crossings), crossings.points), (90000, 90000 * (10 ** 9 - 1)))
        self.assertEqual(crossings.rects[0], (0, 0, 10 ** 9 - 1, 1))
        self.assertEqual(crossings.rects[-1], (299 * 10 ** 9, 299 * 10 ** 9, 10 ** 9 - 1, 1))


class EqualityTest(unittest.TestCase):
    def check_equal(self, one, other):
        self.assertIs(one == other, True)
        self.assertIs(other == one, True)
        self.assertIs(one != other, False)
        self.assertIs(other != one, False)

    def check_unequal(self, one, other):
        self.assertIs(one == other, False)
        self.assertIs(one != other, True)

    def test_the_same_points_cut_otherwise(self):
        whole = Region((0, 0, 4, 4))
        self.check_equal(whole, whole)
        self.check_equal(whole, Region((0, 0, 4, 4)))
        self.check_equal(whole, Region((0, 0, 2, 4), (2, 0, 2, 4)))
        self.check_equal(whole, Region((0, 2, 4, 2), (0, 0, 4, 3)))
        self.check_equal(whole, Region((1, 1, 1, 1), (0, 0, 4, 4), (9, 9, 0, 9)))
        self.check_equal(whole, Region((0, 0, 9, 9)) & Region((-5, -5, 9, 9)))
        self.check_equal(whole, Region((0, 0, 4, 9)) - Region((-5, 4, 20, 9)))
        self.check_equal(Region(), Region((1, 2, 0, 3), (4, 5, 6, 0)))
        self.check_equal(Region(), whole - whole)
        self.check_equal(Region((0, 0, BOUND, BOUND)), Region((0, 0, BOUND, 1), (0, 1, BOUND, BOUND - 1)))

    def test_other_points(self):
        whole = Region((0, 0, 4, 4))
        others = (
            Region(), Region((0, 0, 4, 3)), Region((0, 0, 3, 4)), Region((1, 0, 4, 4)), Region((0, 1, 4, 4)),
            Region((0, 0, 2, 8)), Region((0, 0, 4, 4), (9, 9, 1, 1)), whole - Region((2, 2, 1, 1)),
        )
        for other in others:
            self.check_unequal(whole, other)
            self.check_unequal(other, whole)

    def test_values_of_other_classes(self):
        whole = Region((0, 0, 4, 4))
        others = ODD_VALUES + (0, 1, 16, (), ((0, 0, 4, 4),), [(0, 0, 4, 4)], (0, 0, 4, 4), repr(whole), Region)
        for value in others:
            with self.subTest(value=value):
                self.check_unequal(whole, value)
                self.check_unequal(Region(), value)
        for value in (None, 0, (), ((0, 0, 4, 4),), "a", object()):
            self.check_unequal(value, whole)
            self.check_unequal(value, Region())

    def test_equal_calls_return_equal_results(self):
        self.check_equal(Region((0, 0, 4, 4)) | Region((1, 1, 8, 1)), Region((0, 0, 4, 4)) | Region((1, 1, 8, 1)))


class ReprTest(unittest.TestCase):
    def test_repr(self):
        self.assertEqual(repr(Region()), "Region(0 rectangles, 0 points)")
        self.assertEqual(repr(Region((5, 5, 1, 1))), "Region(1 rectangles, 1 points)")
        self.assertEqual(repr(Region((0, 0, 4, 2), (2, 1, 4, 2))), "Region(3 rectangles, 14 points)")
        self.assertEqual(str(Region((0, 0, 4, 2))), "Region(1 rectangles, 8 points)")
        self.assertEqual(f"{Region((0, 0, BOUND, BOUND))}", "Region(1 rectangles, 1" + 24 * "0" + " points)")


class OfSurfaceTest(unittest.TestCase):
    stage = (("a", 3, 5), ("ab", BOUND, 1), ("b", BOUND, BOUND))

    def check_error(self, error, value, *arguments):
        with self.subTest(arguments=arguments):
            for call in (lambda: Region.of_surface(*arguments),
                         lambda: Region.of_surface(stage=arguments[0], surface=arguments[1])):
                with self.assertRaises(error) as caught:
                    call()
                self.assertIs(type(caught.exception), error)
                self.assertIs(caught.exception.value, value)

    def test_surfaces(self):
        found = [Region.of_surface(self.stage, name) for name in ("a", "ab", "b")]
        self.assertEqual([type(region) for region in found], [Region, Region, Region])
        self.assertEqual([region.rects for region in found], [
            ((0, 0, 3, 5),), ((0, 0, BOUND, 1),), ((0, 0, BOUND, BOUND),)])
        self.assertEqual([region.points for region in found], [15, BOUND, BOUND * BOUND])
        self.assertEqual(found[0], Region((0, 0, 3, 5)))

    def test_cells(self):
        region = Region.of_surface(self.stage, "a")
        for x, y in itertools.product(range(-1, 5), range(-1, 7)):
            self.assertIs((x, y) in region, 0 <= x < 3 and 0 <= y < 5)

    def test_by_name_and_off_an_object(self):
        self.assertEqual(Region.of_surface(stage=self.stage, surface="a").rects, ((0, 0, 3, 5),))
        self.assertEqual(Region.of_surface(surface="ab", stage=self.stage).rects, ((0, 0, BOUND, 1),))
        self.assertEqual(Region((7, 7, 7, 7)).of_surface(self.stage, "a").rects, ((0, 0, 3, 5),))

    def test_what_is_not_a_stage(self):
        for stage in NOT_STAGES:
            for surface in ("a", "c", None, 1):
                self.check_error(InvalidStage, stage, stage, surface)

    def test_what_is_not_a_surface(self):
        for surface in ODD_VALUES + ("c", "aa", "B", 0, ("a",), ["a"], ("a", 3, 5)):
            self.check_error(InvalidSurface, surface, self.stage, surface)


if __name__ == "__main__":
    unittest.main()
