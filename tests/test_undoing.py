import random
import unittest

import slow
from allscreens import undoing
from allscreens.colours import is_colour
from allscreens.errors import DifferentStages, InvalidSurface, NoBeginning, NotAPicture, NotAScript, UsesKeys
from allscreens.painting import paint
from allscreens.pictures import Picture
from allscreens.regions import Region
from allscreens.scripts import Script
from allscreens.stages import is_cell
from allscreens.undoing import barred, beginning, loss, restored
from helpers import BOUND, NOT_SURFACES, ODD_VALUES, STAGE, check_raises, raised_by, region_of_points, run_example
from slow_ends import OTHERS, Ends, points_on

EXAMPLE = """
>>> from allscreens.painting import paint
>>> from allscreens.pictures import Picture
>>> from allscreens.scripts import Script
>>> from allscreens.undoing import barred, beginning, loss, restored
>>> stage = (("a", 4, 1), ("b", 4, 1))
>>> script = Script(stage, (("copy", "a", (0, 0, 2, 1), "b", 0, 0, "none", None), ("recolour", "a", (0, 0, 4, 1), ((1, 2),))))
>>> first = Picture(stage, ("a", (0, 0, 4, 1), 1), ground=3)
>>> end = paint(script, first)
>>> [loss(script, "a").rects, loss(script, "b").rects, restored(script, end, first) == first, beginning(script, Picture(stage, ground=1)), barred(script, end)]
[((2, 0, 2, 1),), ((0, 0, 2, 1),), True, None, None]
"""

TINY = (("a", 3, 1), ("b", 1, 2))
ROW = (("a", 4, 1),)
CELL = (("a", 1, 1), ("b", 2, 1))


def keyless(source, stage, many, depth=0):
    return slow.tight_orders(source, stage, many, depth, (None,))


def picture_of(cells, stage, colours):
    return Picture.of_cells(stage, tuple(zip(cells, colours)))


def turn(surface, rect, *pairs):
    return ("recolour", surface, rect, pairs)


class LossTest(unittest.TestCase):
    def check(self, orders, stage=TINY, named=(0, 1), others=OTHERS):
        """Check the loss of each surface beside all pairs of pictures that differ in one cell only."""
        with self.subTest(orders=orders, stage=stage):
            script, ends = Script(stage, orders), Ends(stage, orders, named, others)
            lost = ends.lost()
            for surface, _, _ in stage:
                found = loss(script, surface)
                self.assertIs(type(found), Region)
                self.assertEqual(found, region_of_points(points_on(lost, surface)))
                self.assertEqual(loss(surface=surface, script=script), found)
            self.check_restored(script, ends, lost)
            self.assertEqual(script.orders, orders)
            return lost

    def check_restored(self, script, ends, lost):
        """Check that the lost cells and the end tell the beginning, and that each one of them is needed for this."""
        source = random.Random(len(ends.ends))
        pictures = list(ends.ends)
        for colours in source.sample(pictures, 12):
            first = picture_of(ends.cells, script.stage, colours)
            end = paint(script, first)
            # What is saved of the other cells does not matter.
            others = source.choice(pictures)
            saved = picture_of(ends.cells, script.stage, [
                colour if cell in lost else other for cell, colour, other in zip(ends.cells, colours, others)])
            self.assertEqual(restored(script, end, saved), first)
            self.assertEqual(restored(saved=saved, end=end, script=script), first)
        for cell in lost:
            pair = ends.pair_that_loses(ends.cells.index(cell))
            one, other = [picture_of(ends.cells, script.stage, colours) for colours in pair]
            self.assertEqual(paint(script, one), paint(script, other))
            for picture in (one, other):
                self.assertEqual(restored(script, paint(script, one), picture), picture)

    def test_each_order(self):
        source = random.Random(1)
        for word in ("fill", "recolour", "copy"):
            for _ in range(15):
                self.check((slow.some_order(source, TINY, (word,), (None,)),), TINY, slow.COLOURS, (50,))

    def test_many_orders(self):
        source = random.Random(2)
        for many in range(2, 7):
            for _ in range(15):
                self.check(keyless(source, TINY, many))
                self.check(keyless(source, ROW, many, 2), ROW)

    def test_many_recolourings(self):
        source = random.Random(3)
        for _ in range(60):
            orders = slow.some_orders(source, CELL, 6, 0, ("recolour", "recolour", "copy"), (None,))
            self.check(orders, CELL, slow.COLOURS)

    def test_recolourings_one_behind_the_other(self):
        whole = (0, 0, 1, 1)
        for orders, expected in (
            ((turn("a", whole, (1, 2)),), True),
            ((turn("a", whole, (1, 2), (2, 1)),), False),
            ((turn("a", whole, (1, 2), (2, 3)), turn("a", whole, (3, 4))), True),
            ((turn("a", whole, (1, 2), (2, 1)), turn("a", whole, (1, 2), (2, 1))), False),
            ((turn("a", whole, (1, 2), (2, 1)), turn("a", whole, (1, 2))), True),
            ((turn("a", whole, (1, 1)), turn("a", whole)), False),
            ((("fill", "a", whole, 1),), True),
        ):
            lost = self.check(orders, CELL, (1, 2, 3, 4))
            self.assertEqual(("a", 0, 0) in lost, expected)

    def test_copies_that_keep_apart_what_is_joined(self):
        whole, copies = (0, 0, 1, 1), [("copy", "a", (0, 0, 1, 1), "b", x, 0, "none", None) for x in (0, 1)]
        for orders, expected in (
            ((copies[0], turn("a", whole, (1, 2))), False),
            ((turn("a", whole, (1, 2)), copies[0]), True),
            ((copies[0], turn("a", whole, (1, 2)), turn("b", whole, (1, 2))), True),
            ((copies[0], turn("a", whole, (1, 2)), turn("b", whole, (2, 3))), False),
            ((copies[0], turn("a", whole, (1, 2)), turn("b", whole, (1, 3))), False),
            ((copies[0], turn("a", whole, (1, 2), (3, 2)), turn("b", whole, (3, 4))), False),
            ((copies[0], turn("a", whole, (1, 2), (3, 2)), turn("b", whole, (1, 3))), True),
            ((copies[0], copies[1], turn("a", whole, (1, 2), (3, 2)), turn("b", (0, 0, 2, 1), (1, 3)),
              turn("b", (1, 0, 1, 1), (2, 5))), True),
            ((copies[0], copies[1], turn("a", whole, (1, 2), (3, 2)), turn("b", whole, (1, 2)),
              turn("b", (1, 0, 1, 1), (2, 3))), False),
            ((copies[0], ("fill", "a", whole, 7), turn("b", whole, (7, 8))), True),
            ((copies[0], ("fill", "a", whole, 7)), False),
            ((copies[0], copies[1], turn("b", whole, (1, 2)), ("fill", "a", whole, 0)), False),
        ):
            lost = self.check(orders, CELL, (1, 2, 3, 4, 5, 7, 8))
            self.assertEqual(("a", 0, 0) in lost, expected, orders)

    def test_what_is_written_over_is_lost(self):
        self.assertEqual(self.check((("fill", "b", (0, 0, 1, 1), 1),)), [("b", 0, 0)])
        self.assertEqual(self.check((("copy", "a", (0, 0, 2, 1), "a", 1, 0, "none", None),)), [("a", 2, 0)])
        self.assertEqual(self.check((("copy", "a", (0, 0, 3, 1), "a", 0, 0, "both", None),)), [])
        self.assertEqual(self.check(()), [])

    def test_large_surfaces(self):
        stage = (("a", BOUND, BOUND), ("b", BOUND, BOUND))
        half = BOUND // 2
        script = Script(stage, (
            ("copy", "a", (0, 0, half, BOUND), "b", half, 0, "across", None),
            turn("a", (0, 0, BOUND, half), (1, 2)),
            turn("b", (BOUND - 5, 0, 5, BOUND), (2, 3)),
        ))
        self.assertEqual(loss(script, "a").rects, ((half, 0, half, half),))
        self.assertEqual(loss(script, "b").rects, ((half, 0, half, BOUND),))
        ended = Script(stage, script.orders + (turn("b", (BOUND - 5, 0, 5, 1), (1, 2)),))
        self.assertEqual(loss(ended, "a").rects, ((half, 0, half, half),))
        joined = Script(stage, script.orders[:2] + (turn("b", (BOUND - 5, 0, 5, 1), (1, 2)),))
        self.assertEqual(loss(joined, "a"), Region((0, 0, 5, 1), (half, 0, half, half)))
        first = Picture(stage, ("a", (3, 0, BOUND, 7), 1), ("b", (0, 5, BOUND, 9), 2), ground=4)
        self.assertEqual(restored(joined, paint(joined, first), first), first)


class RestoredTest(unittest.TestCase):
    def check(self, orders, stage, named=(0, 1)):
        """Check `restored` beside all pictures of the stage, for ends of some pictures and for any others."""
        script, ends = Script(stage, orders), Ends(stage, orders, named, (50,), False)
        lost = [ends.cells.index(cell) for cell in ends.lost()]
        beginnings = {}
        for colours, end in ends.ends.items():
            beginnings[end, tuple(colours[at] for at in lost)] = colours
        source = random.Random(len(lost))
        pictures, outcomes = list(ends.ends), []
        for _ in range(25):
            end = source.choice((source.choice(pictures), ends.ends[source.choice(pictures)]))
            saved = source.choice(pictures)
            expected = beginnings.get((end, tuple(saved[at] for at in lost)))
            shown, kept = [picture_of(ends.cells, stage, colours) for colours in (end, saved)]
            outcomes.append(expected is None)
            if expected is None:
                self.assertEqual(vars(raised_by(self, NoBeginning, restored, script, shown, kept)), {})
            else:
                self.assertEqual(restored(script, shown, kept), picture_of(ends.cells, stage, expected))
            self.assertEqual(shown, picture_of(ends.cells, stage, end))
        return outcomes

    def test_any_ends_and_any_saved_colours(self):
        source = random.Random(1)
        outcomes = []
        for many in range(6):
            for _ in range(20):
                outcomes += self.check(keyless(source, TINY, many), TINY)
                outcomes += self.check(keyless(source, ROW, many, 1), ROW)
        self.assertGreater(min(outcomes.count(True), outcomes.count(False)), 500)

    def test_saved_colours_that_do_not_fit(self):
        stage = (("a", 2, 1),)
        script = Script(stage, (turn("a", (0, 0, 2, 1), (1, 2)),))
        end = Picture(stage, ("a", (0, 0, 1, 1), 2), ground=5)
        for saved, expected in ((1, 1), (2, 2), (3, None), (5, None), (0, None)):
            kept = Picture(stage, ("a", (0, 0, 1, 1), saved), ground=5)
            if expected is None:
                raised_by(self, NoBeginning, restored, script, end, kept)
            else:
                self.assertEqual(restored(script, end, kept), kept)
        raised_by(self, NoBeginning, restored, script, Picture(stage, ground=1), Picture(stage, ground=1))

    def test_a_fill_that_is_not_at_the_end(self):
        stage = (("a", 2, 1),)
        script = Script(stage, (("fill", "a", (0, 0, 1, 1), 3),))
        saved = Picture(stage, ground=8)
        raised_by(self, NoBeginning, restored, script, Picture(stage, ground=2), saved)
        found = restored(script, Picture(stage, ground=3), saved)
        self.assertEqual((found["a", 0, 0], found["a", 1, 0]), (8, 3))


class BeginningTest(unittest.TestCase):
    def check(self, orders, stage, named=(0, 1), many=None):
        """Check both functions for all pictures of the stage, or for so many of them."""
        script, ends = Script(stage, orders), Ends(stage, orders, named, (50,), False)
        reached = set(ends.ends.values())
        pictures = list(ends.ends)
        if many is not None:
            pictures = random.Random(many).sample(pictures, many)
        sizes = []
        for colours in pictures:
            end = picture_of(ends.cells, stage, colours)
            first, cells = beginning(script, end), barred(script, end)
            self.assertEqual(first is None, colours not in reached)
            self.assertEqual(cells is None, colours in reached)
            if first is not None:
                self.assertIs(type(first), Picture)
                self.assertEqual(paint(script, first), end)
                self.assertTrue(all(is_colour(first[cell]) for cell in ends.cells))
                self.assertEqual(beginning(end=end, script=script), first)
            else:
                self.check_barred(ends, reached, colours, cells)
                self.assertEqual(barred(end=end, script=script), cells)
                sizes.append(len(cells))
        return sizes

    def check_barred(self, ends, reached, colours, cells):
        self.assertIs(type(cells), tuple)
        self.assertEqual(list(cells), sorted(set(cells)))
        at = [ends.cells.index(cell) for cell in cells]
        seen = {tuple(end[place] for place in at) for end in reached}
        self.assertNotIn(tuple(colours[place] for place in at), seen)

    def test_all_pictures(self):
        source = random.Random(1)
        for many in range(6):
            for _ in range(12):
                self.check(keyless(source, TINY, many), TINY, many=60)
                self.check(keyless(source, ROW, many, 1), ROW)

    def test_recolourings_and_copies(self):
        source = random.Random(2)
        for _ in range(60):
            orders = slow.some_orders(source, CELL, 6, 0, ("recolour", "recolour", "copy"), (None,))
            self.check(orders, CELL, slow.COLOURS)

    def test_ends_that_are_barred_by_one_cell(self):
        sizes = self.check((turn("a", (0, 0, 3, 1), (1, 2)),), TINY, (1, 2))
        self.assertEqual(set(sizes), {1})
        sizes = self.check((("fill", "a", (0, 0, 1, 1), 1), ("copy", "a", (0, 0, 1, 1), "b", 0, 0, "none", None)), TINY)
        self.assertEqual(set(sizes), {1})
        self.assertEqual(barred(Script(ROW, (("fill", "a", (1, 0, 2, 1), 1),)), Picture(ROW)), (("a", 1, 0),))

    def test_ends_that_are_barred_by_two_cells(self):
        copy = ("copy", "a", (0, 0, 2, 1), "a", 2, 0, "across", None)
        self.assertEqual(set(self.check((copy,), ROW)), {2})
        self.assertEqual(
            barred(Script(ROW, (copy,)), Picture(ROW, ("a", (3, 0, 1, 1), 5))), (("a", 0, 0), ("a", 3, 0)))
        sizes = self.check((copy, turn("a", (0, 0, 1, 1), (0, 1), (2, 1)), turn("a", (3, 0, 1, 1), (1, 0))), ROW, (0, 1, 2))
        self.assertEqual(set(sizes), {1, 2})

    def test_ends_that_are_barred_by_three_cells(self):
        copies = tuple(("copy", "a", (0, 0, 1, 1), "a", x, 0, "none", None) for x in (1, 2))
        turns = tuple(
            turn("a", (x, 0, 1, 1), *pairs)
            for x, pairs in ((0, ((1, 9), (2, 9))), (1, ((2, 8), (3, 8))), (2, ((1, 7), (3, 7)))))
        script = Script(ROW, copies + turns)
        end = Picture.of_cells(ROW, ((("a", 0, 0), 9), (("a", 1, 0), 8), (("a", 2, 0), 7)))
        self.assertIsNone(beginning(script, end))
        self.assertEqual(barred(script, end), (("a", 0, 0), ("a", 1, 0), ("a", 2, 0)))
        for colour in (1, 2, 3, 7, 8, 9, 5):
            reached = paint(script, Picture(ROW, ground=colour))
            self.assertIsNone(barred(script, reached))
            self.assertEqual(paint(script, beginning(script, reached)), reached)
        three = (("a", 1, 1), ("b", 2, 1))
        orders = tuple(("copy", "a", (0, 0, 1, 1), "b", x, 0, "none", None) for x in (0, 1)) + (
            turn("a", (0, 0, 1, 1), (1, 9), (2, 9)), turn("b", (0, 0, 1, 1), (2, 8), (3, 8)),
            turn("b", (1, 0, 1, 1), (1, 7), (3, 7)))
        self.assertEqual(set(self.check(orders, three, (1, 2, 3, 7, 8, 9))), {1, 2, 3})

    def test_large_surfaces(self):
        stage = (("a", BOUND, BOUND), ("b", BOUND, BOUND))
        script = Script(stage, (
            ("copy", "a", (0, 0, BOUND, BOUND), "b", 0, 0, "both", None), turn("b", (0, 0, BOUND, 5), (1, 2), (3, 2))))
        first = Picture(stage, ("a", (7, 9, BOUND, 4), 1), ("b", (0, 0, 5, 5), 6), ground=3)
        end = paint(script, first)
        self.assertIsNone(barred(script, end))
        found = beginning(script, end)
        self.assertEqual(paint(script, found), end)
        for cell in (("b", 0, 0), ("b", BOUND - 1, BOUND - 1), ("b", 5, 5), ("a", 7, 9)):
            other = end.patched((cell[0], (*cell[1:], 1, 1), 9))
            self.assertIsNone(beginning(script, other))
            cells = barred(script, other)
            self.assertIn(cell, cells)
            self.assertEqual(len(cells), 2)
            self.assertTrue(all(is_cell(stage, each) for each in cells))
        self.assertEqual(barred(script, end.patched(("b", (4, 4, 1, 1), 3))), (("b", 4, 4),))


class ErrorsTest(unittest.TestCase):
    fill = ("fill", "a", (0, 0, 1, 1), 5)
    keyed = ("copy", "a", (0, 0, 1, 1), "a", 1, 0, "none", 5)

    def test_what_is_not_a_script_or_a_picture(self):
        script, picture = Script(STAGE, (self.keyed,)), Picture(STAGE)
        for value in ODD_VALUES + (0, STAGE, (), Script, Picture, "fill a 0 0 1 1 5"):
            check_raises(self, NotAScript, value, loss, value, "a")
            check_raises(self, NotAScript, value, loss, surface=None, script=value)
            check_raises(self, NotAScript, value, restored, value, picture, picture)
            check_raises(self, NotAScript, value, restored, value, None, 5)
            check_raises(self, NotAPicture, value, restored, script, value, picture)
            check_raises(self, NotAPicture, value, restored, script, value, script)
            check_raises(self, NotAPicture, value, restored, script, picture, value)
            check_raises(self, NotAPicture, value, restored, saved=value, end=picture, script=script)
            for call in (beginning, barred):
                check_raises(self, NotAScript, value, call, value, picture)
                check_raises(self, NotAScript, value, call, value, value)
                check_raises(self, NotAPicture, value, call, script, value)
                check_raises(self, NotAPicture, value, call, end=value, script=script)
        for value in NOT_SURFACES:
            check_raises(self, InvalidSurface, value, loss, script, value)
            check_raises(self, InvalidSurface, value, loss, surface=value, script=script)

    def test_keys_behind_all_other_errors(self):
        stage, other = STAGE, (("a", 3, 5),)
        keyed, picture, elsewhere = Script(stage, (self.fill, self.keyed)), Picture(stage), Picture(other)
        self.assertEqual(vars(raised_by(self, UsesKeys, loss, keyed, "b")), {})
        raised_by(self, UsesKeys, restored, keyed, picture, picture)
        # No picture leads to this end; but the KEY is told first.
        raised_by(self, UsesKeys, restored, Script(stage, (self.keyed, self.fill)), Picture(stage, ground=6), picture)
        for call in (beginning, barred):
            raised_by(self, UsesKeys, call, keyed, picture)
            self.assertEqual(vars(raised_by(self, DifferentStages, call, keyed, elsewhere)), {})
            raised_by(self, DifferentStages, call, Script(other, (self.fill,)), picture)
        for ends in ((elsewhere, picture), (picture, elsewhere), (elsewhere, elsewhere)):
            raised_by(self, DifferentStages, restored, keyed, *ends)
            raised_by(self, DifferentStages, restored, Script(stage), *ends)

    def test_a_key_in_what_is_no_stroke(self):
        unwritten = self.keyed[:2] + ((9, 9, 1, 1),) + self.keyed[3:]
        framed = ("within", (0, 0, 0, 0), (self.keyed,))
        never = ("repeat", 0, (self.keyed,))
        script = Script(STAGE, (unwritten, framed, never))
        self.assertEqual(loss(script, "a"), Region())
        self.assertEqual(beginning(script, Picture(STAGE, ground=4)), Picture(STAGE, ground=4))
        called = Script(STAGE, (("call", "p"),), parts=(("p", (self.keyed,)),))
        raised_by(self, UsesKeys, loss, called, "a")

    def test_equal_calls_return_equal_results(self):
        orders = keyless(random.Random(4), TINY, 5)
        one, other = Script(TINY, orders), Script(TINY, orders)
        ends = [paint(one, Picture(TINY, ground=colour)) for colour in (0, 1, 5)] + [Picture(TINY, ground=9)]
        def told(script):
            return [(loss(script, "a"), beginning(script, end), barred(script, end)) for end in ends]
        first = told(one)
        self.assertEqual(told(other), first)
        self.assertEqual([told(script) for script in (one, other, one)], [first] * 3)
        self.assertEqual(one.orders, orders)

    def test_the_interface_is_defined_here(self):
        for name in ("loss", "restored", "beginning", "barred"):
            self.assertEqual(vars(undoing)[name].__module__, "allscreens.undoing")

    def test_the_example_of_the_document(self):
        run_example(self, EXAMPLE)


if __name__ == "__main__":
    unittest.main()
