import itertools
import unittest

from allscreens.errors import InvalidRect
from allscreens.rects import common, is_rect
from helpers import BOUND, NOT_RECTS, points_of, run_example

EXAMPLE = """
>>> from allscreens.rects import common, is_rect
>>> [is_rect((0, -3, 5, 0)), is_rect((0, 0, -1, 2)), common((0, 0, 4, 4), (2, 3, 9, 9)), common((0, 0, 4, 4), (4, 0, 1, 1))]
[True, False, (2, 3, 2, 1), None]
"""

RECTS = (
    (0, 0, 0, 0), (1, 2, 3, 4), (-1, -2, 3, 4), (0, 0, 0, 5), (0, 0, 5, 0),
    (BOUND, 0, 0, 0), (0, BOUND, 0, 0), (0, 0, BOUND, 0), (0, 0, 0, BOUND),
    (-BOUND, 0, 0, 0), (0, -BOUND, 0, 0), (BOUND, BOUND, BOUND, BOUND), (-BOUND, -BOUND, BOUND, BOUND),
)


class IsRectTest(unittest.TestCase):
    def test_rectangles(self):
        for value in RECTS:
            with self.subTest(value=value):
                self.assertIs(is_rect(value), True)
                self.assertIs(is_rect(value=value), True)

    def test_other_values(self):
        for value in NOT_RECTS:
            with self.subTest(value=value):
                self.assertIs(is_rect(value), False)
                self.assertIs(is_rect(value=value), False)

    def test_the_example_of_the_document(self):
        run_example(self, EXAMPLE)


class CommonTest(unittest.TestCase):
    def check(self, rect, other_rect, expected):
        with self.subTest(rect=rect, other_rect=other_rect):
            for found in (common(rect, other_rect), common(other_rect, rect)):
                self.assertEqual(found, expected)
                self.assertIn(type(found), (tuple, type(None)))

    def test_one_in_another(self):
        self.check((0, 0, 9, 9), (2, 3, 4, 5), (2, 3, 4, 5))
        self.check((0, 0, 9, 9), (0, 0, 9, 9), (0, 0, 9, 9))
        self.check((0, 0, 9, 9), (0, 0, 1, 9), (0, 0, 1, 9))
        self.check((-5, -5, 9, 9), (3, 3, 1, 1), (3, 3, 1, 1))

    def test_side_by_side(self):
        self.check((0, 0, 4, 4), (4, 0, 4, 4), None)
        self.check((0, 0, 4, 4), (3, 0, 4, 4), (3, 0, 1, 4))
        self.check((0, 0, 4, 4), (4, 4, 4, 4), None)

    def test_over_one_another(self):
        self.check((0, 0, 4, 4), (0, 4, 4, 4), None)
        self.check((0, 0, 4, 4), (0, 3, 4, 4), (0, 3, 4, 1))
        self.check((-3, -2, 4, 4), (-1, -3, 4, 2), (-1, -2, 2, 1))

    def test_apart(self):
        self.check((0, 0, 4, 4), (9, 0, 4, 4), None)
        self.check((0, 0, 4, 4), (0, 9, 4, 4), None)
        self.check((0, 0, 4, 4), (-9, -9, 4, 4), None)

    def test_without_points(self):
        self.check((1, 1, 0, 2), (0, 0, 4, 4), None)
        self.check((1, 1, 2, 0), (0, 0, 4, 4), None)
        self.check((1, 1, 0, 0), (1, 1, 0, 0), None)
        self.check((1, 1, 0, 2), (1, 1, 0, 2), None)

    def test_beside_sets_of_points(self):
        numbers = [(at, size) for at in (-1, 0, 1) for size in (0, 1, 2)]
        rects = [(x, y, width, height) for (x, width), (y, height) in itertools.product(numbers, numbers)]
        for rect, other_rect in itertools.product(rects, rects):
            found = common(rect, other_rect)
            expected = points_of(rect) & points_of(other_rect)
            if found is None or not expected:
                self.assertEqual((found, expected), (None, set()))
            else:
                self.assertIs(is_rect(found), True)
                self.assertEqual(points_of(found), expected)

    def test_great_numbers(self):
        whole = (-BOUND, -BOUND, BOUND, BOUND)
        self.check(whole, whole, whole)
        self.check(whole, (-1, -1, BOUND, BOUND), (-1, -1, 1, 1))
        self.check(whole, (0, 0, BOUND, BOUND), None)
        self.check((BOUND, BOUND, BOUND, BOUND), (BOUND, BOUND, 1, 7), (BOUND, BOUND, 1, 7))
        self.check((0, 0, BOUND, BOUND), (1, 2, BOUND, BOUND), (1, 2, BOUND - 1, BOUND - 2))
        self.check((BOUND - 1, 0, 3, 1), (BOUND, 0, BOUND, 1), (BOUND, 0, 2, 1))
        self.check((-BOUND, 5, BOUND, 1), (-BOUND + 1, 5, 3, 1), (-BOUND + 1, 5, 3, 1))

    def test_by_name(self):
        self.assertEqual(common(rect=(0, 0, 4, 4), other_rect=(2, 3, 9, 9)), (2, 3, 2, 1))
        self.assertEqual(common(other_rect=(0, 0, 4, 4), rect=(2, 3, 9, 9)), (2, 3, 2, 1))
        self.assertEqual(common((0, 0, 4, 4), other_rect=(2, 3, 9, 9)), (2, 3, 2, 1))

    def test_what_is_not_a_rectangle(self):
        good = (0, 0, 1, 1)
        other = (0, 0, 1)
        for value in NOT_RECTS:
            for arguments in ((value, good), (good, value), (value, other), (value, value)):
                with self.subTest(arguments=arguments):
                    self.check_error(lambda: common(*arguments), value)
                    self.check_error(lambda: common(rect=arguments[0], other_rect=arguments[1]), value)

    def test_the_first_that_is_not_a_rectangle(self):
        one, two = (1, 2), [0, 0, 1, 1]
        self.check_error(lambda: common(one, two), one)
        self.check_error(lambda: common(two, one), two)
        self.check_error(lambda: common(other_rect=one, rect=two), two)
        self.assertEqual(two, [0, 0, 1, 1])

    def check_error(self, call, value):
        with self.assertRaises(InvalidRect) as caught:
            call()
        self.assertIs(type(caught.exception), InvalidRect)
        self.assertIs(caught.exception.value, value)


if __name__ == "__main__":
    unittest.main()
