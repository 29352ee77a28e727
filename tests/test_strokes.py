import itertools
import random
import unittest

import slow
from allscreens.scripts import Script
from helpers import BOUND, points_of, run_example

STAGE = (("a", 4, 3), ("b", 3, 5))

EXAMPLE = """
>>> from allscreens.scripts import Script
>>> stage = (("a", 8, 4),)
>>> inner = ("within", (0, 0, 2, 4), (("fill", "a", (0, 0, 8, 1), 5), ("copy", "a", (0, 0, 8, 1), "a", 0, 2, "across", None)))
>>> script = Script(stage, (("mirrored", 7, None, (inner,)), ("fill", "a", (9, 0, 1, 1), 6)))
>>> [script.strokes, str(Script.read(stage, "repeat 2\\n  moved 1 0\\n    fill a 0 0 1 1 3\\n  end\\nend")).count("\\n")]
[(('fill', 'a', (6, 0, 2, 1), 5), ('copy', 'a', (0, 0, 2, 1), 'a', 6, 2, 'across', None)), 4]
"""

FILL = ("fill", "a", (0, 0, 1, 1), 5)


class StrokesTest(unittest.TestCase):
    def check_strokes(self, stage, strokes):
        """Check that strokes write just what they tell: their points are cells, and so are the sources."""
        cells = set(slow.cells_of(stage))
        for stroke in strokes:
            self.assertTrue(Script.is_order(stage, stroke))
            name, rect = (stroke[3], (stroke[4], stroke[5], *stroke[2][2:])) if stroke[0] == "copy" else stroke[1:3]
            written = {(name, x, y) for x, y in points_of(rect)}
            self.assertLessEqual(written, cells)
            self.assertGreater(len(written), 0)
            (_, found) = slow.record(stage, stroke)
            self.assertEqual(set(found), written)
            if stroke[0] == "copy":
                self.assertEqual(set(found.values()), {(stroke[1], x, y) for x, y in points_of(stroke[2])})

    def check(self, orders, parts=(), stage=STAGE):
        """Check the strokes beside the points gone through one by one, and those 10 ** 11 times as large."""
        with self.subTest(orders=orders, parts=parts):
            strokes = Script(stage, orders, parts=parts).strokes
            self.assertIs(type(strokes), tuple)
            self.check_strokes(stage, strokes)
            expected = slow.records(stage, orders, parts)
            self.assertEqual([slow.record(stage, stroke) for stroke in strokes], expected)
            written = [order for order, frames in slow.written_out(orders, parts) if slow.record(stage, order, frames)[1]]
            self.assertEqual(
                [(stroke[0], stroke[3:] if stroke[0] != "copy" else (stroke[1], stroke[3], *stroke[6:])) for stroke in strokes],
                [(order[0], order[3:] if order[0] != "copy" else (order[1], order[3], *order[6:])) for order in written])
            great = Script(slow.scaled_stage(stage), slow.scaled_orders(orders), parts=slow.scaled_parts(parts))
            self.assertEqual(great.strokes, slow.scaled_orders(strokes))

    def test_fills_and_recolours(self):
        for name, x, y in itertools.product("ab", range(-2, 6), range(-2, 6)):
            for width, height in ((1, 1), (2, 3), (9, 1), (1, 9), (0, 3), (3, 0)):
                self.check((("fill", name, (x, y, width, height), 5), ("recolour", name, (x, y, width, height), ((1, 2),))))

    def test_copies(self):
        source = random.Random(1)
        for mirror in ("none", "across", "down", "both"):
            for key in (None, 0, 7):
                for _ in range(60):
                    order = ("copy", source.choice("ab"), slow.some_rect(source), source.choice("ab"),
                             source.randint(-3, 4), source.randint(-3, 5), mirror, key)
                    self.check((order,))

    def test_copies_at_each_place(self):
        for x, y, mirror in itertools.product(range(-2, 5), range(-2, 4), ("none", "across", "down", "both")):
            self.check((("copy", "a", (-1, 1, 4, 4), "b", x, y, mirror, None),))
            self.check((("copy", "b", (x, y, 3, 2), "b", 1, 1, mirror, 3),))

    def test_each_order_in_each_frame(self):
        source = random.Random(2)
        for word, inner, outer in itertools.product(("fill", "recolour", "copy"), slow.FRAMES, slow.FRAMES):
            for _ in range(12):
                order = slow.some_order(source, STAGE, (word,), (None, None, 0))
                orders = (slow.framed(source, (slow.framed(source, (order,), (inner,)),), (outer,)),)
                if slow.in_limits(STAGE, orders):
                    self.check(orders)

    def test_frames_up_to_six_levels_deep(self):
        source = random.Random(3)
        for depth in range(6):
            for _ in range(120):
                orders = (slow.some_order(source, STAGE),)
                for _ in range(depth):
                    orders = (slow.framed(source, orders),)
                    if source.randrange(3) == 0:
                        orders = (*orders, slow.some_order(source, STAGE))
                if slow.in_limits(STAGE, orders):
                    self.check(orders)

    def test_many_orders(self):
        source = random.Random(4)
        for _ in range(100):
            self.check(slow.some_orders(source, STAGE, source.randint(0, 6), 5))

    def test_the_inner_frame_is_applied_first(self):
        script = Script((("a", 20, 20),), (("moved", 5, 0, (("mirrored", 3, None, (("fill", "a", (1, 0, 1, 1), 4),)),)),))
        self.assertEqual(script.strokes, (("fill", "a", (7, 0, 1, 1), 4),))
        script = Script((("a", 20, 20),), (("mirrored", 9, None, (("moved", 5, 0, (("fill", "a", (1, 0, 1, 1), 4),)),)),))
        self.assertEqual(script.strokes, (("fill", "a", (3, 0, 1, 1), 4),))

    def test_within_is_moved_and_mirrored_with_its_orders(self):
        fill = ("fill", "a", (0, 0, 20, 20), 4)
        stage = (("a", 20, 20),)
        inside = ("within", (1, 2, 3, 4), (fill,))
        self.assertEqual(Script(stage, (("moved", 5, 6, (inside,)),)).strokes, (("fill", "a", (6, 8, 3, 4), 4),))
        self.assertEqual(Script(stage, (("mirrored", 19, None, (inside,)),)).strokes, (("fill", "a", (16, 2, 3, 4), 4),))
        self.assertEqual(
            Script(stage, (("within", (1, 2, 3, 4), (("moved", 2, 0, (fill,)),)),)).strokes,
            (("fill", "a", (2, 2, 2, 4), 4),))
        self.assertEqual(Script(stage, (("within", (0, 0, 3, 3), (("within", (3, 0, 3, 3), (fill,)),)),)).strokes, ())
        self.assertEqual(Script(stage, (("within", (0, 0, 0, 3), (fill,)),)).strokes, ())

    def test_within_does_not_matter_for_what_is_read(self):
        copy = ("copy", "a", (0, 0, 2, 1), "a", 4, 0, "none", None)
        script = Script((("a", 20, 20),), (("within", (5, 0, 9, 9), (copy,)),))
        self.assertEqual(script.strokes, (("copy", "a", (1, 0, 1, 1), "a", 5, 0, "none", None),))

    def test_repeats(self):
        for times in range(13):
            self.check((("repeat", times, (FILL,)), FILL))
        for one, other in ((2, 3), (3, 2), (0, 12), (12, 0), (1, 12), (12, 1), (4, 4)):
            self.check((("repeat", one, (("repeat", other, (("fill", "a", (1, 0, 2, 2), 5),)),)),))
            self.check((("repeat", one, (("repeat", other, (("moved", 1, 0, (FILL,)),)),)),))
        script = Script(STAGE, (("repeat", 3, (FILL, ("fill", "b", (0, 0, 1, 1), 6))),))
        self.assertEqual(script.strokes, (FILL, ("fill", "b", (0, 0, 1, 1), 6)) * 3)

    def test_calls_and_parts(self):
        source = random.Random(5)
        fills = tuple(("fill", "ab"[at % 2], (at % 3, 0, 2, 2), at) for at in range(4))
        parts = (
            ("a", (fills[0],)), ("b", (("call", "a"), fills[1], ("moved", 1, 0, (("call", "a"),)))), ("c", ()),
            ("d", (("call", "c"), ("mirrored", 3, None, (("call", "b"), ("repeat", 2, (("call", "a"),)))), fills[2])),
        )
        self.check((("call", "d"), ("call", "b"), fills[3], ("call", "c")), parts)
        self.check((("within", (1, 0, 2, 9), (("call", "d"),)), ("repeat", 2, (("call", "b"),))), parts)
        self.check((), parts)
        for _ in range(100):
            names = ("a", "ab", "b", "zz")
            parts = []
            for at, name in enumerate(names):
                orders = [slow.some_order(source, STAGE, ("fill", "copy"), (None,)) for _ in range(source.randint(0, 1))]
                orders += [("call", source.choice(names[:at])) for _ in range(source.randint(0, 1)) if at]
                parts.append((name, tuple(orders)))
            orders = tuple(slow.framed(source, (("call", source.choice(names)),)) for _ in range(3))
            if slow.in_limits(STAGE, orders, parts):
                self.check(orders, tuple(parts))

    def test_only_the_target_or_only_the_source_in_a_window(self):
        stage = (("a", 4, 4), ("b", 9, 9))
        for window in ((0, 0, 4, 4), (4, 4, 4, 4), (3, 3, 2, 2), (0, 0, 9, 9)):
            copy = ("copy", "b", (0, 0, 4, 4), "b", 4, 4, "both", None)
            self.check((("within", window, (copy,)),), (), stage)
        self.assertEqual(
            Script(stage, (("copy", "b", (0, 0, 9, 9), "a", 0, 0, "none", None),)).strokes,
            (("copy", "b", (0, 0, 4, 4), "a", 0, 0, "none", None),))
        self.assertEqual(
            Script(stage, (("copy", "a", (0, 0, 9, 9), "b", 0, 0, "across", 4),)).strokes,
            (("copy", "a", (0, 0, 4, 4), "b", 5, 0, "across", 4),))
        self.assertEqual(Script(stage, (("copy", "a", (4, 0, 5, 5), "b", 0, 0, "none", None),)).strokes, ())
        self.assertEqual(Script(stage, (("copy", "b", (0, 0, 5, 5), "a", 4, 0, "none", None),)).strokes, ())

    def test_numbers_at_the_bounds(self):
        stage = (("a", BOUND, BOUND), ("b", 1, 1))
        everything = (-BOUND, -BOUND, BOUND, BOUND)
        last = (BOUND - 1, BOUND - 1, BOUND, BOUND)
        orders = (
            ("fill", "a", everything, 1),
            ("fill", "a", last, 2),
            ("fill", "a", (BOUND, BOUND, BOUND, BOUND), 3),
            ("moved", BOUND, BOUND, (("fill", "a", everything, 4),)),
            ("moved", BOUND, BOUND, (("moved", BOUND, BOUND, (("fill", "a", everything, 5),)),)),
            ("moved", BOUND, BOUND, (("moved", -BOUND, -BOUND, (("fill", "a", (0, 0, 1, 1), 6),)),)),
            ("mirrored", -BOUND, -BOUND, (("fill", "a", everything, 7),)),
            ("mirrored", BOUND, -1, (("fill", "a", (1, -BOUND, BOUND, BOUND), 8),)),
            ("copy", "a", last, "a", -BOUND, BOUND, "none", None),
            ("copy", "a", last, "b", 0, 0, "none", 10 ** 9),
            ("copy", "a", (0, 0, BOUND, BOUND), "b", -BOUND + 1, 0, "across", None),
        )
        self.assertEqual(Script(stage, orders).strokes, (
            ("fill", "a", (BOUND - 1, BOUND - 1, 1, 1), 2),
            ("fill", "a", (0, 0, BOUND, BOUND), 4),
            ("fill", "a", (0, 0, 1, 1), 6),
            ("fill", "a", (0, 0, 1, 1), 7),
            ("fill", "a", (0, 0, BOUND, BOUND), 8),
            ("copy", "a", (BOUND - 1, BOUND - 1, 1, 1), "b", 0, 0, "none", 10 ** 9),
            ("copy", "a", (0, 0, 1, 1), "b", 0, 0, "across", None),
        ))

    def test_frames_that_lead_beyond_the_bounds_and_back(self):
        orders = (FILL,)
        for x in (BOUND, BOUND, -BOUND, -BOUND, 1):
            orders = (("moved", x, -x, orders),)
        self.assertEqual(Script((("a", 9, 9),), orders).strokes, ())
        orders = (("fill", "a", (0, 1, 1, 1), 5),)
        for x in (BOUND, BOUND, -BOUND, -BOUND, 1):
            orders = (("moved", x, -x, orders),)
        self.assertEqual(Script((("a", 9, 9),), orders).strokes, (("fill", "a", (1, 0, 1, 1), 5),))

    def test_a_copy_onto_itself_is_a_stroke(self):
        copy = ("copy", "a", (0, 0, 2, 2), "a", 0, 0, "none", None)
        self.assertEqual(Script(STAGE, (copy, ("recolour", "a", (0, 0, 1, 1), ()))).strokes, (
            copy, ("recolour", "a", (0, 0, 1, 1), ())))

    def test_nothing_that_stands_for_no_order_is_gone_through(self):
        nothing = ()
        for _ in range(5):
            nothing = (("repeat", 12, nothing), ("moved", 1, 1, ()))
        parts = [("a", nothing)]
        for name in "bcdefgh":
            calls = (("call", parts[-1][0]),) * 9
            for _ in range(5):
                calls = (("repeat", 12, calls),)
            parts.append((name, calls))
        orders = (("repeat", 12, (("call", "h"), FILL)), ("repeat", 0, (("call", "h"), FILL)))
        script = Script(STAGE, orders, parts=tuple(parts))
        self.assertEqual(script.strokes, (FILL,) * 12)

    def test_strokes_of_strokes(self):
        source = random.Random(6)
        for _ in range(50):
            script = Script(STAGE, slow.some_orders(source, STAGE, 5, 3))
            self.assertEqual(Script(STAGE, script.strokes).strokes, script.strokes)

    def test_the_example_of_the_document(self):
        run_example(self, EXAMPLE)


if __name__ == "__main__":
    unittest.main()
