import itertools
import random
import unittest

import slow
import slow_forms
from allscreens import damage as damage_module
from allscreens.damage import damage, needs
from allscreens.effects import Effect
from allscreens.errors import InvalidSurface, NotAScript
from allscreens.pictures import Picture
from allscreens.regions import Region
from allscreens.scripts import Script
from helpers import (
    BOUND, NOT_SURFACES, ODD_VALUES, STAGE, check_raises, points_of, region_of_points, run_example,
)
from slow_ends import Ends, points_on

EXAMPLE = """
>>> from allscreens.damage import damage, needs
>>> from allscreens.scripts import Script
>>> stage = (("a", 5, 1),)
>>> flip = Script(stage, (("copy", "a", (0, 0, 5, 1), "a", 0, 0, "across", None),))
>>> dot = Script(stage, (("fill", "a", (0, 0, 2, 1), 8),))
>>> [damage(flip, "a").rects, needs(flip, "a").points, needs(dot, "a").rects, damage(dot + dot, "a").rects]
[((0, 0, 2, 1), (3, 0, 2, 1)), 5, ((2, 0, 3, 1),), ((0, 0, 2, 1),)]
"""

TINY = (("a", 3, 1), ("b", 1, 2))
ROW = (("a", 5, 1),)
SMALL = (("a", 4, 2), ("b", 3, 3))


class SmallTest(unittest.TestCase):
    def check(self, orders, stage=TINY, parts=()):
        """Check both regions of each surface beside all pictures."""
        with self.subTest(orders=orders, stage=stage):
            script = Script(stage, orders, parts=parts)
            ends = Ends(stage, orders, parts=parts)
            damaged, needed = ends.damaged(), ends.needed()
            for surface, _, _ in stage:
                for found, expected in (
                    (damage(script, surface), damaged), (needs(script=script, surface=surface), needed),
                ):
                    self.assertIs(type(found), Region)
                    self.assertEqual(found, region_of_points(points_on(expected, surface)))
            self.check_that_needs_suffice(ends, needed)
            self.assertEqual((script.orders, script.parts), (orders, parts))
            return damaged, needed

    def check_that_needs_suffice(self, ends, needed):
        """Pictures that agree in all needs lead to the same end in all cells that are written or needed."""
        at = [ends.cells.index(cell) for cell in needed]
        found = {}
        for picture, end in ends.ends.items():
            found.setdefault(tuple(picture[place] for place in at), set()).add(end)
        self.assertEqual({len(each) for each in found.values()}, {1})

    def test_each_order(self):
        source = random.Random(1)
        for word in ("fill", "recolour", "copy"):
            for _ in range(25):
                self.check((slow.tight_order(source, TINY, (word,)),))

    def test_many_orders(self):
        source = random.Random(2)
        for many in range(2, 7):
            for _ in range(12):
                self.check(slow.tight_orders(source, TINY, many))
                self.check(slow.tight_orders(source, ROW, many), ROW)

    def test_frames_and_parts(self):
        source = random.Random(3)
        for _ in range(40):
            self.check(slow.tight_orders(source, TINY, 3, 4))
        part = slow.tight_orders(source, TINY, 2, 1, (None,))
        self.check((("call", "p"), ("mirrored", 2, None, (("call", "p"),))), TINY, (("p", part),))

    def test_overlapping_and_mirrored_copies(self):
        for mirror, key, x in itertools.product(("none", "across", "down", "both"), (None, 0), (-1, 0, 1)):
            copy = ("copy", "a", (0, 0, 4, 1), "a", x, 0, mirror, key)
            self.check((copy,), ROW)
            self.check((copy, copy), ROW)

    def test_keyed_copies_with_recolourings(self):
        source = random.Random(4)
        for words in (("copy", "copy"), ("copy", "recolour", "copy"), ("recolour", "copy", "fill", "copy")):
            for _ in range(25):
                self.check(tuple(slow.tight_order(source, ROW, (word,), (0, 1)) for word in words), ROW)

    def test_what_changes_nothing(self):
        whole = (0, 0, 5, 1)
        for orders in (
            (), (("copy", "a", whole, "a", 0, 0, "none", None),), (("copy", "a", whole, "a", 0, 0, "none", 1),),
            (("recolour", "a", whole, ((0, 0), (1, 1))),), (("recolour", "a", whole, ()),),
            (("copy", "a", whole, "a", 0, 0, "across", None),) * 2, (("fill", "a", (5, 0, 3, 3), 1),),
            (("recolour", "a", whole, ((0, 1), (1, 0))),) * 2,
        ):
            damaged, needed = self.check(orders, ROW)
            self.assertEqual((damaged, needed), ([], slow.cells_of(ROW)))

    def test_a_fill_over_copies_needs_nothing_of_them(self):
        copies = (("copy", "a", (0, 0, 3, 1), "b", 0, 0, "down", None), ("copy", "a", (1, 0, 2, 1), "a", 0, 0, "none", 1))
        fills = (("fill", "b", (0, 0, 1, 1), 1), ("fill", "a", (0, 0, 2, 1), 0))
        _, needed = self.check(copies + fills)
        self.assertEqual(needed, [("a", 2, 0), ("b", 0, 1)])

    def test_a_keyed_copy_needs_what_it_may_leave(self):
        keyed = ("copy", "a", (0, 0, 1, 1), "b", 0, 0, "none", 1)
        _, needed = self.check((keyed,))
        self.assertEqual(needed, slow.cells_of(TINY))
        _, needed = self.check((("fill", "a", (0, 0, 1, 1), 0), keyed))
        self.assertNotIn(("b", 0, 0), needed)
        _, needed = self.check((("fill", "a", (0, 0, 1, 1), 1), keyed))
        self.assertIn(("b", 0, 0), needed)
        damaged, _ = self.check((("recolour", "a", (0, 0, 1, 1), ((0, 1),)), keyed[:7] + (0,)))
        self.assertEqual(damaged, [("a", 0, 0), ("b", 0, 0)])

    def test_recolouring_needs_the_cell_itself(self):
        damaged, needed = self.check((("recolour", "a", (0, 0, 2, 1), ((0, 1),)),))
        self.assertEqual((damaged, needed), ([("a", 0, 0), ("a", 1, 0)], slow.cells_of(TINY)))
        damaged, _ = self.check((("recolour", "a", (0, 0, 2, 1), ((0, 1),)), ("recolour", "a", (0, 0, 1, 1), ((1, 0),))))
        self.assertEqual(damaged, [("a", 0, 0), ("a", 1, 0)])

    def test_beside_the_forms_of_larger_surfaces(self):
        source = random.Random(5)
        for _ in range(60):
            script = Script(SMALL, slow.some_orders(source, SMALL, 8, 1))
            forms = {cell: Effect(script).at(cell) for cell in slow.cells_of(SMALL)}
            needed = set().union(*[slow_forms.cells_in(form) for form in forms.values()])
            for surface, _, _ in SMALL:
                damaged = points_on([cell for cell in forms if forms[cell] != ("cell", cell)], surface)
                self.assertEqual(damage(script, surface), region_of_points(damaged))
                self.assertEqual(needs(script, surface), region_of_points(points_on(needed, surface)))


class LargeTest(unittest.TestCase):
    def test_blocks_in_place_of_cells(self):
        source = random.Random(6)
        great = slow.scaled_stage(TINY)
        for _ in range(60):
            # Blocks that are mirrored onto themselves have middles: their cells are unlike others.
            orders = tuple(
                order[:6] + ("none", order[7]) if order[0] == "copy" else order for order in slow.tight_orders(source, TINY, 5))
            script, small = Script(great, slow.scaled_orders(orders)), Script(TINY, orders)
            for surface, _, _ in TINY:
                for one in (damage, needs):
                    expected = Region(*[slow.scaled_rect(rect) for rect in one(small, surface).rects])
                    self.assertEqual(one(script, surface), expected)

    def test_at_edges_beside_them_and_in_the_middle(self):
        stage = (("a", BOUND, BOUND), ("b", BOUND, 3))
        middle = (5, 7, BOUND - 11, BOUND - 9)
        script = Script(stage, (("fill", "a", middle, 3),))
        self.assertEqual(damage(script, "a").rects, (middle,))
        self.assertEqual(damage(script, "b").rects, ())
        self.assertEqual(needs(script, "a"), Region((0, 0, BOUND, BOUND)) - Region(middle))
        self.assertEqual(needs(script, "b").rects, ((0, 0, BOUND, 3),))
        found = damage(script, "a")
        for point, expected in (
            ((5, 7), True), ((4, 7), False), ((5, 6), False), ((BOUND - 7, BOUND - 3), True),
            ((BOUND - 6, BOUND - 3), False), ((BOUND - 7, BOUND - 2), False), ((BOUND // 2, BOUND // 2), True),
        ):
            self.assertIs(point in found, expected)
            self.assertIs(point in needs(script, "a"), not expected)

    def test_the_middle_column_stays(self):
        for width in (BOUND, BOUND - 1):
            stage = (("a", width, 5),)
            for key in (None, 4):
                flip = Script(stage, (("copy", "a", (0, 0, width, 5), "a", 0, 0, "across", key),))
                half = width // 2
                expected = Region((0, 0, half, 5), (width - half, 0, half, 5))
                self.assertEqual(damage(flip, "a"), expected)
                self.assertEqual(needs(flip, "a").rects, ((0, 0, width, 5),))

    def test_a_copy_moved_by_one(self):
        stage = (("a", BOUND, 1), ("b", 1, BOUND))
        script = Script(stage, (("copy", "a", (0, 0, BOUND, 1), "a", 1, 0, "none", None),))
        self.assertEqual(damage(script, "a").rects, ((1, 0, BOUND - 1, 1),))
        self.assertEqual(needs(script, "a").rects, ((0, 0, BOUND - 1, 1),))
        keyed = Script(stage, (("copy", "b", (0, 0, 1, BOUND), "b", 0, -1, "none", 0),))
        self.assertEqual(damage(keyed, "b").rects, ((0, 0, 1, BOUND - 1),))
        self.assertEqual(needs(keyed, "b").rects, ((0, 0, 1, BOUND),))


class ErrorsTest(unittest.TestCase):
    def test_errors(self):
        script = Script(STAGE)
        for call in (damage, needs):
            for value in ODD_VALUES + (0, STAGE, (), Picture(STAGE), Effect(script), Script, "fill a 0 0 1 1 5"):
                check_raises(self, NotAScript, value, call, value, "a")
                check_raises(self, NotAScript, value, call, value, None)
                check_raises(self, NotAScript, value, call, surface="a", script=value)
            for value in NOT_SURFACES:
                check_raises(self, InvalidSurface, value, call, script, value)
                check_raises(self, InvalidSurface, value, call, surface=value, script=script)

    def test_equal_calls_return_equal_results(self):
        orders = slow.some_orders(random.Random(7), SMALL, 6)
        one, other = Script(SMALL, orders), Script(SMALL, orders)
        first = (damage(one, "a"), needs(one, "b"))
        needs(other, "a"), damage(other, "b")
        self.assertEqual((damage(other, "a"), needs(other, "b")), first)
        self.assertEqual((damage(one, "a"), needs(one, "b")), first)

    def test_the_interface_is_defined_here(self):
        for name in ("damage", "needs"):
            self.assertEqual(vars(damage_module)[name].__module__, "allscreens.damage")

    def test_regions_of_points(self):
        points = points_of((1, 2, 3, 2))
        self.assertEqual(region_of_points(points), Region((1, 2, 3, 2)))
        self.assertEqual(region_of_points([]), Region())

    def test_the_example_of_the_document(self):
        run_example(self, EXAMPLE)


if __name__ == "__main__":
    unittest.main()
