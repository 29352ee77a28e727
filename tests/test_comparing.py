import itertools
import random
import unittest

import slow
import slow_forms
from allscreens import comparing
from allscreens.comparing import alike, commute, idle, is_idempotent, parting
from allscreens.effects import Effect
from allscreens.errors import (
    DifferentStages, NotAScript, TooManyCopies, TooManyKeys, TooManyOrders, TooManyRecolours,
)
from allscreens.painting import probe
from allscreens.pictures import Picture
from allscreens.scripts import Script
from allscreens.stages import is_cell
from helpers import BOUND, ODD_VALUES, STAGE, check_raises, check_raises_equal, raised_by, run_example

EXAMPLE = """
>>> from allscreens.comparing import alike, commute, idle, parting
>>> from allscreens.painting import probe
>>> from allscreens.pictures import Picture
>>> from allscreens.scripts import Script
>>> stage = (("a", 5, 1),)
>>> flip, nothing = Script(stage, (("copy", "a", (0, 0, 5, 1), "a", 0, 0, "across", None),)), Script(stage)
>>> dot = Script(stage, (("fill", "a", (0, 0, 1, 1), 8), ("fill", "a", (0, 0, 1, 1), 8)))
>>> cell, cells = parting(flip, nothing)
>>> picture = Picture.of_cells(stage, cells)
>>> [alike(flip + flip, nothing), probe(flip, picture, cell) == picture[cell], commute(flip, dot), idle(dot), alike(dot, Script(stage, dot.orders[1:]))]
[True, False, False, (0, 1), True]
"""

SMALL = (("a", 4, 2), ("b", 3, 3))
ROW = (("a", 5, 1),)


def changed(source, stage, order):
    """An order that differs in one number, colour, key, pair or word."""
    word = order[0]
    place = source.randrange(1, len(order))
    if word == "copy" and place in (4, 5):
        return order[:place] + (order[place] + source.choice((-1, 1)),) + order[place + 1:]
    if word == "copy" and place == 6:
        return order[:6] + (source.choice(("none", "across", "down", "both")),) + order[7:]
    if word == "copy" and place == 7:
        return order[:7] + (source.choice((None, 0, 1, 7)),)
    if place == 2:
        rect = list(order[2])
        rect[source.randrange(4)] += 1
        return order[:2] + (tuple(rect),) + order[3:]
    if word == "fill" and place == 3:
        return order[:3] + (source.choice(slow.COLOURS),)
    if word == "recolour" and place == 3:
        return order[:3] + (slow.some_pairs(source),)
    return order[:place] + (source.choice(stage)[0],) + order[place + 1:]


def some_pair(source, stage, many):
    """Two tuples of orders that differ a little, or not at all."""
    while True:
        one = slow.some_orders(source, stage, many)
        other = list(one)
        for _ in range(source.randint(0, 2)):
            at = source.randrange(many)
            choice = source.randrange(5)
            if choice == 0:
                other[at] = slow.some_order(source, stage)
            elif choice == 1:
                other = other[:at] + other[at + 1:] + [other[at]]
            elif choice == 2:
                other.insert(at, other[at])
            else:
                other[at] = changed(source, stage, other[at])
        if slow.in_limits(stage, other):
            return one, tuple(other)


class AlikeTest(unittest.TestCase):
    def check_parting(self, one, other):
        """Check that what `parting` returns tells the scripts apart, and that the picture is as told."""
        cell, cells = found = parting(one, other)
        self.assertEqual([type(found), type(cells), {type(pair) for pair in cells} - {tuple}], [tuple, tuple, set()])
        self.assertLessEqual(len(cells), 8)
        names = [each for each, _ in cells]
        self.assertEqual(names, sorted(set(names)))
        self.assertTrue(all(is_cell(one.stage, each) for each in [cell, *names]))
        picture = Picture.of_cells(one.stage, cells)
        self.assertNotEqual(probe(one, picture, cell), probe(other, picture, cell))
        self.assertEqual(parting(one, other), found)

    def check(self, orders, other_orders, stage=SMALL):
        """Check two scripts beside the forms of all cells, in both turns."""
        with self.subTest(orders=orders, other_orders=other_orders):
            one, other = Script(stage, orders), Script(stage, other_orders)
            effect, other_effect = Effect(one), Effect(other)
            expected = all(effect.at(cell) == other_effect.at(cell) for cell in slow.cells_of(stage))
            slowly = all(
                slow_forms.same_ends(one.strokes, other.strokes, cell) for cell in slow.cells_of(stage))
            self.assertIs(expected, slowly)
            self.assertIs(alike(one, other), expected)
            self.assertIs(alike(other=one, one=other), expected)
            if expected:
                self.assertIsNone(parting(one, other))
                self.assertIsNone(parting(other=one, one=other))
            else:
                self.check_parting(one, other)
                self.check_parting(other, one)
            return expected

    def test_pairs_that_differ_a_little(self):
        source = random.Random(1)
        found = []
        for many in range(1, 8):
            for _ in range(45):
                found.append(self.check(*some_pair(source, SMALL, many)))
                found.append(self.check(*some_pair(source, ROW, many), ROW))
        self.assertGreater(min(found.count(True), found.count(False)), 150)

    def test_keyed_copies_that_differ_a_little(self):
        source = random.Random(2)
        for _ in range(150):
            words = [source.choice(("copy", "recolour")) for _ in range(source.randint(1, 4))] + ["copy"]
            one = tuple(slow.some_order(source, ROW, (word,), (0, 1)) for word in words)
            at = source.randrange(len(one))
            other = one[:at] + (changed(source, ROW, one[at]),) + one[at + 1:]
            if slow.in_limits(ROW, one) and slow.in_limits(ROW, other):
                self.check(one, other, ROW)

    def test_small_differences(self):
        fill = ("fill", "a", (0, 0, 2, 1), 5)
        copy = ("copy", "a", (0, 0, 2, 2), "b", 0, 0, "none", 5)
        turn = ("recolour", "b", (0, 0, 3, 3), ((1, 2), (2, 1)))
        self.assertTrue(self.check((fill,), (fill, fill)))
        self.assertFalse(self.check((fill,), (("fill", "a", (0, 0, 2, 1), 6),)))
        self.assertFalse(self.check((fill,), (("fill", "a", (0, 0, 3, 1), 5),)))
        self.assertFalse(self.check((copy,), (copy[:7] + (None,),)))
        self.assertFalse(self.check((copy,), (copy[:7] + (6,),)))
        self.assertFalse(self.check((copy,), (copy[:6] + ("across", 5),)))
        self.assertTrue(self.check((copy, copy), (copy,)))
        self.assertTrue(self.check((turn, turn), ()))
        self.assertFalse(self.check((turn,), (("recolour", "b", (0, 0, 3, 3), ((1, 2),)),)))
        self.assertTrue(self.check((("recolour", "b", (0, 0, 3, 3), ((1, 1),)),), ()))
        self.assertTrue(self.check((("copy", "b", (0, 0, 3, 3), "b", 0, 0, "none", 4),), ()))
        self.assertFalse(self.check((("copy", "b", (0, 0, 3, 3), "b", 0, 0, "both", None),), ()))
        self.assertTrue(self.check((("copy", "b", (0, 0, 3, 3), "b", 0, 0, "both", None),) * 2, ()))
        self.assertFalse(self.check((("copy", "b", (0, 0, 3, 3), "b", 0, 0, "both", 1),) * 2, ()))

    def test_eight_cells_tell_apart(self):
        stage = (("a", 8, 1), ("b", 8, 1), ("c", 1, 1))
        def gather(names):
            copies = [("copy", "b", (4, 0, 1, 1), "c", 0, 0, "none", None)]
            for at, name in enumerate(names):
                copies.append(("copy", name, (at, 0, 1, 1), "c", 0, 0, "none", at))
            return Script(stage, tuple(copies))
        one, other = gather("ab"), gather("ba")
        self.check_parting(one, other)
        self.assertLessEqual(len(parting(one, other)[1]), 8)

    def test_strokes_that_are_written_otherwise(self):
        source = random.Random(3)
        for _ in range(60):
            script = Script(SMALL, slow.some_orders(source, SMALL, 4, 4))
            self.assertIs(alike(script, script), True)
            self.assertIs(alike(script, Script(SMALL, script.strokes)), True)
            self.assertIs(alike(script, script + Script(SMALL)), True)

    def test_by_different_scripts_nothing_is_changed(self):
        one, other = Script(SMALL, (("fill", "a", (0, 0, 1, 1), 5),)), Script(SMALL)
        before = (one.orders, other.orders)
        alike(one, other), parting(one, other), commute(one, other), idle(one), is_idempotent(one)
        self.assertEqual((one.orders, other.orders), before)

    def test_the_interface_is_defined_here(self):
        for name in ("alike", "parting", "commute", "is_idempotent", "idle"):
            self.assertEqual(vars(comparing)[name].__module__, "allscreens.comparing")

    def test_the_example_of_the_document(self):
        run_example(self, EXAMPLE)


class LargeTest(unittest.TestCase):
    def test_pairs_that_differ_a_little(self):
        source = random.Random(4)
        stage = slow.scaled_stage(SMALL)
        for _ in range(60):
            one, other = [Script(stage, slow.scaled_orders(orders)) for orders in some_pair(source, SMALL, 5)]
            found = parting(one, other)
            self.assertIs(alike(one, other), found is None)
            if found is None:
                effect, other_effect = Effect(one), Effect(other)
                for cell in slow.cells_of(SMALL):
                    for corner in slow.corners(cell):
                        self.assertEqual(effect.at(corner), other_effect.at(corner))
            else:
                AlikeTest.check_parting(self, one, other)

    def test_one_cell_of_very_many(self):
        stage = (("a", BOUND, BOUND),)
        whole = ("fill", "a", (0, 0, BOUND, BOUND), 5)
        for x, y in ((0, 0), (BOUND - 1, BOUND - 1), (BOUND // 3, 7)):
            one = Script(stage, (whole, ("fill", "a", (x, y, 1, 1), 6)))
            cell, cells = parting(one, Script(stage, (whole,)))
            self.assertEqual((cell, cells), (("a", x, y), ()))
            self.assertIs(alike(one, one + one), True)

    def test_the_middle_column(self):
        for width in (BOUND - 1, BOUND):
            stage = (("a", width, 5),)
            flip = Script(stage, (("copy", "a", (0, 0, width, 5), "a", 0, 0, "across", None),))
            half = (width + 1) // 2
            kept = Script(stage, (("copy", "a", (0, 0, half, 5), "a", width - half, 0, "across", None),))
            self.assertIs(alike(flip, kept), False)
            self.assertIs(alike(kept, kept + kept), True)
            self.assertIs(alike(flip + flip, Script(stage)), True)
            self.assertIs(alike(kept + flip, kept), True)
            AlikeTest.check_parting(self, flip, kept)

    def test_quarters_that_are_moved_round(self):
        stage, half = (("a", BOUND, BOUND), ("b", BOUND, BOUND)), BOUND // 2
        there = Script(stage, (("copy", "a", (0, 0, half, BOUND), "b", half, 0, "none", None),))
        back = Script(stage, (("copy", "b", (half, 0, half, BOUND), "a", 0, 0, "none", None),))
        self.assertIs(alike(there + back, there), True)
        self.assertIs(alike(back + there, there), False)
        self.assertIs(commute(there, back), False)
        self.assertIs(is_idempotent(there), True)


class SumsTest(unittest.TestCase):
    def test_commute(self):
        source = random.Random(5)
        found = []
        for _ in range(200):
            one, other = [Script(SMALL, slow.some_orders(source, SMALL, 2, 1, keys=(None, None, 1))) for _ in range(2)]
            if slow.in_limits(SMALL, one.strokes + other.strokes):
                found.append(alike(one + other, other + one))
                self.assertIs(commute(one, other), found[-1])
                self.assertIs(commute(other=one, one=other), found[-1])
        self.assertGreater(min(found.count(True), found.count(False)), 30)

    def test_is_idempotent(self):
        source = random.Random(6)
        found = []
        for _ in range(400):
            script = Script(SMALL, slow.some_orders(source, SMALL, 2, 1, keys=(None, 1)))
            if slow.in_limits(SMALL, script.strokes * 2):
                found.append(alike(script + script, script))
                self.assertIs(is_idempotent(script), found[-1])
                self.assertIs(is_idempotent(script=script), found[-1])
        self.assertGreater(min(found.count(True), found.count(False)), 20)

    def test_errors_of_the_sums(self):
        fill, copy = ("fill", "a", (0, 0, 1, 1), 5), ("copy", "a", (0, 0, 2, 1), "a", 1, 0, "none", None)
        keyed, turn = copy[:7] + (3,), ("recolour", "a", (0, 0, 1, 1), ((1, 2),))
        for error, found, order, many in (
            (TooManyOrders, 18, fill, 9), (TooManyCopies, 6, copy, 3), (TooManyKeys, 4, keyed, 2),
            (TooManyRecolours, 6, turn, 3),
        ):
            script = Script(STAGE, (order,) * many)
            check_raises_equal(self, error, found, commute, script, script)
            check_raises_equal(self, error, found, is_idempotent, script)
            check_raises_equal(self, error, found, is_idempotent, script=script)
        check_raises_equal(self, TooManyOrders, 17, commute, Script(STAGE, (fill,) * 16), Script(STAGE, (fill,)))
        self.assertIs(commute(Script(STAGE, (fill,) * 8), Script(STAGE, (fill,) * 8)), True)
        self.assertIs(is_idempotent(Script(STAGE, (fill,) * 8)), True)
        self.assertIs(is_idempotent(Script(STAGE, (("fill", "a", (9, 9, 1, 1), 5),) * 16)), True)


class IdleTest(unittest.TestCase):
    def test_beside_strokes_left_out(self):
        source = random.Random(7)
        sizes = []
        for many in range(7):
            for _ in range(20):
                script = Script(SMALL, slow.some_orders(source, SMALL, many, 2))
                strokes = script.strokes
                expected = tuple(
                    index for index in range(len(strokes))
                    if alike(Script(SMALL, strokes[:index] + strokes[index + 1:]), script))
                self.assertEqual(idle(script), expected)
                self.assertEqual(idle(script=script), expected)
                sizes.append(len(expected))
        self.assertGreater(min(sizes.count(0), len(sizes) - sizes.count(0)), 20)

    def test_each_one_is_left_out_by_itself(self):
        fill = ("fill", "a", (0, 0, 2, 1), 5)
        self.assertEqual(idle(Script(SMALL, (fill, fill))), (0, 1))
        self.assertEqual(idle(Script(SMALL, (fill, fill, fill))), (0, 1, 2))
        self.assertEqual(idle(Script(SMALL, (fill,))), ())
        self.assertEqual(idle(Script(SMALL)), ())
        self.assertEqual(idle(Script(SMALL, (("fill", "a", (9, 9, 1, 1), 5), ("recolour", "a", (0, 0, 1, 1), ())))), (0,))

    def test_large_surfaces(self):
        stage = (("a", BOUND, BOUND),)
        orders = (
            ("fill", "a", (5, 5, 9, 9), 1), ("fill", "a", (0, 0, BOUND, BOUND), 2), ("fill", "a", (7, 7, 1, 1), 2),
            ("copy", "a", (0, 0, 9, BOUND), "a", BOUND - 9, 0, "both", None), ("fill", "a", (BOUND - 1, 0, 1, 1), 3),
        )
        self.assertEqual(idle(Script(stage, orders)), (0, 2, 3))


class ErrorsTest(unittest.TestCase):
    def test_what_is_not_a_script(self):
        script = Script(STAGE)
        for value in ODD_VALUES + (0, STAGE, (), Picture(STAGE), Effect(script), Script, "fill a 0 0 1 1 5"):
            for call in (alike, parting, commute):
                check_raises(self, NotAScript, value, call, value, script)
                check_raises(self, NotAScript, value, call, value, None)
                check_raises(self, NotAScript, value, call, script, value)
                check_raises(self, NotAScript, value, call, other=value, one=script)
                check_raises(self, NotAScript, value, call, other=0, one=value)
            for call in (is_idempotent, idle):
                check_raises(self, NotAScript, value, call, value)
                check_raises(self, NotAScript, value, call, script=value)

    def test_different_stages(self):
        fill = ("fill", "a", (0, 0, 1, 1), 5)
        for stage, call in itertools.product((SMALL, STAGE[:2], (("a", 3, 6),) + STAGE[1:]), (alike, parting, commute)):
            self.assertEqual(vars(raised_by(self, DifferentStages, call, Script(STAGE), Script(stage))), {})
            raised_by(self, DifferentStages, call, other=Script(STAGE), one=Script(stage))
            raised_by(self, DifferentStages, call, Script(STAGE, (fill,) * 9), Script(stage, (fill,) * 9))


if __name__ == "__main__":
    unittest.main()
