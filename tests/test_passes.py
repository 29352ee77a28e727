import itertools
import random
import unittest

import slow
import slow_forms
from allscreens import passes
from allscreens.comparing import alike, idle
from allscreens.errors import InvalidPass, NotAScript
from allscreens.passes import copies_direct, fills_joined, optimized, without_idle
from allscreens.pictures import Picture
from allscreens.scripts import Script
from helpers import BOUND, ODD_VALUES, STAGE, check_raises, check_raises_equal, points_of, run_example

EXAMPLE = """
>>> from allscreens.passes import copies_direct, optimized
>>> from allscreens.scripts import Script
>>> stage = (("a", 5, 1), ("b", 5, 1), ("c", 5, 1))
>>> copies = Script(stage, (("copy", "a", (0, 0, 3, 1), "b", 1, 0, "none", None), ("copy", "b", (2, 0, 2, 1), "c", 0, 0, "across", None)))
>>> fills = Script(stage, (("fill", "a", (0, 0, 2, 1), 5), ("fill", "a", (2, 0, 2, 1), 5), ("fill", "b", (0, 0, 1, 1), 5), ("fill", "b", (0, 0, 4, 1), 6)))
>>> [copies_direct(copies).strokes[1], optimized(fills, "idle", "fills").strokes]
[('copy', 'a', (1, 0, 2, 1), 'c', 0, 0, 'across', None), (('fill', 'a', (0, 0, 4, 1), 5), ('fill', 'b', (0, 0, 4, 1), 6))]
"""

SMALL = (("a", 4, 3), ("b", 3, 4))
ROW = (("a", 6, 1),)
MIRRORS = ("none", "across", "down", "both")
ALL = {"idle": without_idle, "fills": fills_joined, "copies": copies_direct}


def slowly_without_idle(stage, strokes):
    at, script = 0, Script(stage, strokes)
    while at < len(strokes):
        others = strokes[:at] + strokes[at + 1:]
        if alike(Script(stage, others), script):
            strokes = others
        else:
            at += 1
    return strokes


def rect_of(points):
    """The rectangle that has just these points, None if there is none."""
    xs, ys = [x for x, _ in points], [y for _, y in points]
    rect = (min(xs), min(ys), max(xs) - min(xs) + 1, max(ys) - min(ys) + 1)
    return rect if points_of(rect) == points else None


def slowly_joined(strokes):
    for at, (one, other) in enumerate(zip(strokes, strokes[1:])):
        if one[0] == other[0] == "fill" and (one[1], one[3]) == (other[1], other[3]):
            rect = rect_of(points_of(one[2]) | points_of(other[2]))
            if rect is not None:
                return slowly_joined(strokes[:at] + (("fill", one[1], rect, one[3]),) + strokes[at + 2:])
    return strokes


def written_by(stage, stroke):
    """A dict of the source of each cell that a stroke writes."""
    return slow.record(stage, stroke)[1]


def slowly_direct(stage, strokes):
    """The copies taken from as far back as possible, found cell by cell."""
    done = []
    for stroke in strokes:
        if stroke[0] == "copy" and stroke[7] is None:
            stroke = slowest_direct(stage, done, stroke)
        done.append(stroke)
    return tuple(done)


def slowest_direct(stage, done, stroke):
    while True:
        read = {(stroke[1], *point) for point in points_of(stroke[2])}
        writers = [at for at, each in enumerate(done) if read & set(written_by(stage, each))]
        if not writers or done[writers[-1]][0] != "copy" or done[writers[-1]][7] is not None:
            return stroke
        first = done[writers[-1]]
        sources = written_by(stage, first)
        if not read <= set(sources):
            return stroke
        taken = {sources[cell] for cell in read}
        if any(taken & set(written_by(stage, each)) for each in done[writers[-1]:]):
            return stroke
        turns = [{word for word in ("across", "down") if each[6] in (word, "both")} for each in (first, stroke)]
        word = {(): "none", ("across",): "across", ("down",): "down", ("across", "down"): "both"}[
            tuple(sorted(turns[0] ^ turns[1]))]
        stroke = ("copy", first[1], rect_of({(x, y) for _, x, y in taken}), *stroke[3:6], word, None)


class PassesTest(unittest.TestCase):
    def check_result(self, found, script):
        """Check what each pass promises."""
        self.assertIs(type(found), Script)
        self.assertEqual(found.parts, ())
        self.assertEqual(found.stage, script.stage)
        self.assertEqual(found.orders, found.strokes)
        self.assertIs(alike(found, script), True)

    def check(self, orders, stage=SMALL, parts=()):
        """Check the three passes beside what the document tells."""
        with self.subTest(orders=orders):
            script = Script(stage, orders, parts=parts)
            expected = {
                "idle": slowly_without_idle(stage, script.strokes),
                "fills": slowly_joined(script.strokes),
                "copies": slowly_direct(stage, script.strokes),
            }
            for name, one_pass in ALL.items():
                found = one_pass(script)
                self.check_result(found, script)
                self.assertEqual(found.strokes, expected[name])
                self.assertEqual(one_pass(script=script), found)
                self.assertEqual(optimized(script, name), found)
            self.assertEqual((script.orders, script.parts), (orders, parts))
            return [len(strokes) for strokes in expected.values()]

    def test_any_scripts(self):
        source = random.Random(1)
        for many in range(7):
            for _ in range(20):
                self.check(slow.some_orders(source, SMALL, many, 2))
                self.check(slow.some_orders(source, ROW, many), ROW)

    def test_parts_and_frames_are_written_out(self):
        part = (("fill", "a", (0, 0, 1, 1), 5), ("copy", "a", (0, 0, 2, 1), "b", 0, 0, "none", None))
        orders = (("moved", 1, 0, (("call", "p"),)), ("repeat", 2, (("mirrored", 3, 2, (("call", "p"),)),)))
        self.check(orders, SMALL, (("p", part),))


class IdleTest(unittest.TestCase):
    def test_stroke_by_stroke(self):
        fill, other = ("fill", "a", (0, 0, 2, 1), 5), ("fill", "a", (0, 0, 2, 1), 6)
        for strokes, expected in (
            ((fill, fill), (fill,)), ((fill, fill, fill), (fill,)), ((fill, other), (other,)),
            ((fill, other, fill), (fill,)), ((), ()), ((fill,), (fill,)),
            ((("recolour", "a", (0, 0, 2, 1), ()), fill), (fill,)),
        ):
            self.assertEqual(without_idle(Script(SMALL, strokes)).strokes, expected)

    def test_two_that_are_idle_by_themselves_but_not_together(self):
        fill = ("fill", "a", (0, 0, 4, 3), 5)
        halves = (("fill", "a", (0, 0, 3, 3), 5), ("fill", "a", (1, 0, 3, 3), 5))
        script = Script(SMALL, (*halves, fill))
        self.assertEqual(idle(script), (0, 1, 2))
        self.assertEqual(without_idle(script).strokes, (fill,))
        script = Script(SMALL, (fill, *halves))
        self.assertEqual(idle(script), (0, 1, 2))
        self.assertEqual(without_idle(script).strokes, halves)
        self.assertEqual(idle(without_idle(script)), ())

    def test_nothing_idle_is_left(self):
        source = random.Random(2)
        for _ in range(60):
            self.assertEqual(idle(without_idle(Script(SMALL, slow.some_orders(source, SMALL, 7)))), ())

    def test_large_surfaces(self):
        stage = (("a", BOUND, BOUND),)
        flip = ("copy", "a", (0, 0, BOUND, BOUND), "a", 0, 0, "both", None)
        dot, fill = ("fill", "a", (7, 7, 1, 1), 2), ("fill", "a", (0, 0, BOUND, BOUND), 2)
        self.assertEqual(without_idle(Script(stage, (dot, fill, flip, dot))).strokes, (fill,))
        self.assertEqual(without_idle(Script(stage, (flip, dot, flip))).strokes, (flip, dot, flip))


class FillsTest(unittest.TestCase):
    def fills(self, *rects, surface="a", colour=5):
        return tuple(("fill", surface, rect, colour) for rect in rects)

    def check(self, strokes, expected):
        script = Script(SMALL, strokes)
        self.assertEqual(fills_joined(script).strokes, tuple(expected))
        self.assertEqual(slowly_joined(script.strokes), tuple(expected))

    def test_two_rectangles(self):
        for one, other, both in (
            ((0, 0, 2, 1), (2, 0, 2, 1), (0, 0, 4, 1)), ((2, 0, 2, 1), (0, 0, 2, 1), (0, 0, 4, 1)),
            ((0, 0, 1, 2), (0, 2, 1, 1), (0, 0, 1, 3)), ((0, 0, 3, 3), (1, 1, 1, 1), (0, 0, 3, 3)),
            ((1, 1, 1, 1), (0, 0, 3, 3), (0, 0, 3, 3)), ((0, 0, 2, 2), (0, 0, 2, 2), (0, 0, 2, 2)),
            ((0, 0, 3, 2), (1, 0, 3, 2), (0, 0, 4, 2)), ((0, 0, 3, 2), (0, 1, 3, 2), (0, 0, 3, 3)),
            ((0, 0, 2, 1), (3, 0, 1, 1), None), ((0, 0, 2, 1), (2, 1, 2, 1), None), ((0, 0, 2, 2), (2, 0, 2, 1), None),
            ((0, 0, 2, 2), (1, 1, 2, 2), None), ((0, 1, 3, 1), (1, 0, 1, 3), None), ((0, 0, 1, 2), (0, 1, 2, 1), None),
        ):
            fills = self.fills(one, other)
            self.check(fills, fills if both is None else self.fills(both))

    def test_three_in_a_row(self):
        a, b, c = (0, 0, 1, 1), (1, 0, 1, 1), (2, 0, 2, 1)
        for rects in itertools.permutations((a, b, c)):
            self.check(self.fills(*rects), self.fills((0, 0, 4, 1)))
        self.check(self.fills(a, c), self.fills(a, c))
        # The first two are joined first: so the third one finds no neighbour.
        self.check(self.fills((0, 0, 2, 1), (2, 0, 2, 1), (2, 1, 2, 1)), self.fills((0, 0, 4, 1), (2, 1, 2, 1)))
        self.check(
            self.fills((0, 1, 1, 1), (0, 0, 2, 1), (2, 0, 2, 1)), self.fills((0, 1, 1, 1), (0, 0, 4, 1)))
        # What was joined behind is joined with what stands before.
        self.check(self.fills((0, 1, 4, 1), (0, 0, 2, 1), (2, 0, 2, 1)), self.fills((0, 0, 4, 2)))

    def test_with_others_between(self):
        one, other = self.fills((0, 0, 2, 1), (2, 0, 2, 1))
        for between in (
            ("fill", "a", (0, 2, 1, 1), 6), ("fill", "b", (2, 0, 1, 1), 5), ("recolour", "a", (0, 0, 4, 1), ()),
            ("copy", "a", (0, 0, 1, 1), "a", 0, 0, "none", None),
        ):
            self.check((one, between, other), (one, between, other))
        unwritten = ("fill", "a", (9, 9, 1, 1), 6)
        self.check((one, unwritten, other), self.fills((0, 0, 4, 1)))

    def test_other_colours_and_surfaces(self):
        one = self.fills((0, 0, 2, 1))
        self.check(one + self.fills((2, 0, 1, 1), colour=6), one + self.fills((2, 0, 1, 1), colour=6))
        self.check(one + self.fills((2, 0, 1, 1), surface="b"), one + self.fills((2, 0, 1, 1), surface="b"))

    def test_large_surfaces(self):
        stage = (("a", BOUND, BOUND),)
        fills = self.fills((0, 0, BOUND, 5), (0, 5, BOUND, BOUND - 5))
        self.assertEqual(fills_joined(Script(stage, fills)).strokes, self.fills((0, 0, BOUND, BOUND)))


class CopiesTest(unittest.TestCase):
    def test_the_four_mirrors(self):
        stage = (("a", 4, 4), ("b", 4, 4), ("c", 4, 4))
        for one, other in itertools.product(MIRRORS, MIRRORS):
            strokes = (("copy", "a", (0, 0, 3, 2), "b", 1, 1, one, None), ("copy", "b", (2, 1, 2, 1), "c", 0, 3, other, None))
            script = Script(stage, strokes)
            found = copies_direct(script)
            self.assertEqual(found.strokes, slowly_direct(stage, strokes))
            self.assertEqual(found.strokes[1][1], "a")
            self.assertIs(alike(found, script), True)

    def test_chains_of_copies(self):
        source = random.Random(3)
        stage = (("a", 3, 2), ("b", 3, 2), ("c", 3, 2), ("d", 3, 2))
        lengths = set()
        for _ in range(150):
            names = source.sample("abcd", 4)
            strokes = tuple(
                ("copy", one, (0, 0, source.randint(2, 3), 2), other, source.randint(0, 1), 0, source.choice(MIRRORS), None)
                for one, other in zip(names, names[1:]))
            script = Script(stage, strokes)
            found = copies_direct(script)
            self.assertEqual(found.strokes, slowly_direct(stage, script.strokes))
            self.assertIs(alike(found, script), True)
            lengths.add(sum(one != other for one, other in zip(found.strokes, script.strokes)))
        self.assertEqual(lengths, {0, 1, 2})

    def check(self, strokes, last, stage=ROW):
        script = Script(stage, strokes)
        self.assertEqual(script.strokes, strokes)
        self.assertEqual(copies_direct(script).strokes, strokes[:-1] + (last,))
        self.assertEqual(slowly_direct(stage, strokes)[-1], last)

    def test_what_stands_between(self):
        stage = (("a", 4, 1), ("b", 4, 1), ("c", 4, 1))
        first = ("copy", "a", (0, 0, 2, 1), "b", 0, 0, "none", None)
        last = ("copy", "b", (0, 0, 2, 1), "c", 0, 0, "none", None)
        direct = ("copy", "a") + last[2:]
        for between, expected in (
            (("fill", "a", (0, 0, 1, 1), 5), last), (("fill", "a", (2, 0, 2, 1), 5), direct),
            (("fill", "b", (1, 0, 1, 1), 5), last), (("fill", "b", (2, 0, 1, 1), 5), direct),
            (("fill", "c", (0, 0, 4, 1), 5), direct), (("recolour", "a", (0, 0, 1, 1), ()), last),
            (("recolour", "b", (1, 0, 3, 1), ((1, 2),)), last), (("copy", "c", (0, 0, 1, 1), "a", 1, 0, "none", 4), last),
            (("copy", "c", (0, 0, 1, 1), "b", 1, 0, "none", 4), last),
        ):
            self.check((first, between, last), expected, stage)
        # A copy of a cell onto itself writes it, too.
        between = ("copy", "b", (0, 0, 2, 1), "b", 0, 0, "none", None)
        self.assertEqual(
            [stroke[1] for stroke in copies_direct(Script(stage, (first, between, last))).strokes], ["a", "a", "a"])
        between = ("copy", "a", (0, 0, 1, 1), "a", 0, 0, "none", None)
        self.check((first, between, last), last, stage)

    def test_copies_with_a_key(self):
        stage = (("a", 4, 1), ("b", 4, 1), ("c", 4, 1))
        first = ("copy", "a", (0, 0, 2, 1), "b", 0, 0, "none", None)
        last = ("copy", "b", (0, 0, 2, 1), "c", 0, 0, "none", None)
        self.check((first[:7] + (0,), last), last, stage)
        self.check((first, last[:7] + (0,)), last[:7] + (0,), stage)
        self.check((first, last), ("copy", "a") + last[2:], stage)

    def test_only_a_part_was_copied_there(self):
        stage = (("a", 4, 1), ("b", 4, 1))
        first = ("copy", "a", (0, 0, 2, 1), "b", 0, 0, "none", None)
        for rect in ((0, 0, 3, 1), (1, 0, 2, 1), (2, 0, 2, 1)):
            last = ("copy", "b", rect, "a", 0, 0, "none", None)
            self.check((first, last), last, stage)
        last = ("copy", "b", (0, 0, 2, 1), "a", 2, 0, "across", None)
        self.check((first, last), ("copy", "a", (0, 0, 2, 1), "a", 2, 0, "across", None), stage)

    def test_source_and_target_on_one_surface(self):
        first = ("copy", "a", (0, 0, 2, 1), "a", 2, 0, "none", None)
        self.check((first, ("copy", "a", (2, 0, 2, 1), "a", 4, 0, "none", None)),
                   ("copy", "a", (0, 0, 2, 1), "a", 4, 0, "none", None))
        self.check((first, ("copy", "a", (2, 0, 2, 1), "a", 0, 0, "across", None)),
                   ("copy", "a", (0, 0, 2, 1), "a", 0, 0, "across", None))
        # A copy that overlaps its own source writes what it took.
        shifted = ("copy", "a", (0, 0, 3, 1), "a", 1, 0, "none", None)
        self.check((shifted, ("copy", "a", (1, 0, 2, 1), "a", 4, 0, "none", None)),
                   ("copy", "a", (1, 0, 2, 1), "a", 4, 0, "none", None))
        self.check((shifted, ("copy", "a", (1, 0, 1, 1), "a", 4, 0, "none", None)),
                   ("copy", "a", (0, 0, 1, 1), "a", 4, 0, "none", None))

    def test_many_copies(self):
        source = random.Random(4)
        stage = tuple((name, 4, 1) for name in "abc")
        changed = 0
        for _ in range(1500):
            orders = []
            for _ in range(4):
                one, other = source.choice("abc"), source.choice("abc")
                rect = (source.randint(0, 2), 0, source.choice((1, 1, 2, 3)), 1)
                key = source.choice((None,) * 8 + (1,))
                orders.append(("copy", one, rect, other, source.randint(0, 2), 0, source.choice(MIRRORS), key))
            orders.insert(source.randrange(5), ("fill", source.choice("abc"), (source.randrange(4), 0, 1, 1), 5))
            if slow.in_limits(stage, orders):
                script = Script(stage, tuple(orders))
                found = copies_direct(script)
                self.assertEqual(found.strokes, slowly_direct(stage, script.strokes))
                changed += found.strokes != script.strokes
                if found.strokes != script.strokes:
                    self.assertIs(alike(found, script), True)
        self.assertGreater(changed, 300)

    def test_several_that_write_the_source(self):
        stage = tuple((name, 4, 1) for name in "abcd")
        one, two, last = [
            ("copy", source, (0, 0, 2, 1), target, 0, 0, "none", None) for source, target in ("ac", "bc", "cd")]
        self.check((one, two, last), ("copy", "b") + last[2:], stage)
        for first in (("fill", "c", (0, 0, 1, 1), 5), one[:7] + (5,), ("recolour", "c", (0, 0, 4, 1), ())):
            self.check((first, two, last), ("copy", "b") + last[2:], stage)
            self.check((two, first, last), last, stage)
        # What stood there before does not matter, nor what was done then to that from which it is taken.
        self.check((one, ("fill", "b", (0, 0, 1, 1), 5), two, last), ("copy", "b") + last[2:], stage)

    def test_the_copy_before_as_it_is_by_then(self):
        stage = tuple((name, 4, 1) for name in "abcd")
        one, two, three = [
            ("copy", source, (0, 0, 4, 1), target, 0, 0, "across", None) for source, target in ("ab", "bc", "cd")]
        # The second one reads "a" by then, so the third one is not kept from it by the fill on "b".
        fill = ("fill", "b", (0, 0, 4, 1), 5)
        found = copies_direct(Script(stage, (one, two, fill, three)))
        self.assertEqual([stroke[1] for stroke in found.strokes], ["a", "a", "b", "a"])
        self.assertEqual([found.strokes[1][6], found.strokes[3][6]], ["none", "across"])

    def test_large_surfaces(self):
        stage = (("a", BOUND, BOUND), ("b", BOUND, BOUND))
        strokes = (
            ("copy", "a", (0, 0, BOUND, BOUND), "b", 0, 0, "both", None),
            ("copy", "b", (0, 0, 5, 7), "b", 8, 0, "down", None))
        expected = (strokes[0], ("copy", "a", (BOUND - 5, BOUND - 7, 5, 7), "b", 8, 0, "across", None))
        self.assertEqual(copies_direct(Script(stage, strokes)).strokes, expected)


class OptimizedTest(unittest.TestCase):
    def test_each_row_of_names(self):
        source = random.Random(5)
        for names in itertools.chain.from_iterable(itertools.product(ALL, repeat=many) for many in range(4)):
            for _ in range(2):
                script = Script(SMALL, slow.some_orders(source, SMALL, 6, 1))
                expected = Script(SMALL, script.strokes)
                for name in names:
                    expected = ALL[name](expected)
                found = optimized(script, *names)
                self.assertEqual(found, expected)
                self.assertEqual(optimized(script, *names), found)
                PassesTest.check_result(self, found, script)

    def test_without_names(self):
        orders = (("within", (0, 0, 2, 2), (("fill", "a", (0, 0, 4, 4), 5),)), ("call", "p"))
        script = Script(SMALL, orders, parts=(("p", ()),))
        found = optimized(script)
        self.assertEqual((found.orders, found.parts), ((("fill", "a", (0, 0, 2, 2), 5),), ()))
        self.assertEqual(optimized(script=script), found)
        self.assertEqual(optimized(Script(SMALL)), Script(SMALL))


class ErrorsTest(unittest.TestCase):
    def test_what_is_not_a_script(self):
        for value in ODD_VALUES + (0, STAGE, (), Picture(STAGE), Script, "fill a 0 0 1 1 5"):
            for call in (without_idle, fills_joined, copies_direct, optimized):
                check_raises(self, NotAScript, value, call, value)
                check_raises(self, NotAScript, value, call, script=value)
            check_raises(self, NotAScript, value, optimized, value, "idle", None)

    def test_what_is_not_a_pass(self):
        script = Script(SMALL, (("fill", "a", (0, 0, 1, 1), 5),))
        for value in ODD_VALUES + (
            0, 1, ("idle",), ["idle"], b"idle", "Idle", "idle ", " idle", "fill", "copy", "idl", "idle,fills", "without_idle",
        ):
            check_raises_equal(self, InvalidPass, 0, optimized, script, value)
            check_raises_equal(self, InvalidPass, 2, optimized, script, "idle", "idle", value, value)
            check_raises_equal(self, InvalidPass, 1, optimized, script, "copies", value, "fills")

    def test_the_interface_is_defined_here(self):
        for name in ("without_idle", "fills_joined", "copies_direct", "optimized"):
            self.assertEqual(vars(passes)[name].__module__, "allscreens.passes")

    def test_cells_of_strokes_stand_where_the_slow_way_finds_them(self):
        stroke = ("copy", "a", (0, 0, 3, 2), "b", 0, 1, "both", None)
        for cell, source in written_by(SMALL, stroke).items():
            self.assertEqual(slow_forms.source_in(stroke, cell), source)

    def test_the_example_of_the_document(self):
        run_example(self, EXAMPLE)


if __name__ == "__main__":
    unittest.main()
