import random
import unittest

import slow
from allscreens import painting
from allscreens.errors import DifferentStages, InvalidCell, NotAPicture, NotAScript
from allscreens.painting import paint, probe, trace
from allscreens.pictures import Picture
from allscreens.scripts import Script
from helpers import NOT_CELLS, ODD_VALUES, STAGE, check_raises, raised_by, run_example

EXAMPLE = """
>>> from allscreens.painting import paint, probe, trace
>>> from allscreens.pictures import Picture
>>> from allscreens.scripts import Script
>>> stage = (("s", 6, 1),)
>>> picture = Picture(stage, ("s", (0, 0, 2, 1), 7))
>>> script = Script(stage, (("copy", "s", (0, 0, 4, 1), "s", 1, 0, "none", None), ("recolour", "s", (0, 0, 6, 1), ((0, 4),))))
>>> end = paint(script, picture)
>>> [end["s", 0, 0], end["s", 2, 0], end["s", 3, 0], end["s", 5, 0], probe(script, picture, ("s", 2, 0)), trace(script, picture, ("s", 3, 0)), trace(script, picture, ("s", 0, 0))]
[7, 7, 4, 4, 7, ((0, 1), ('s', 2, 0)), ((), ('s', 0, 0))]
"""

SMALL = (("a", 4, 3), ("b", 3, 5))
WIDE = (("a", 6, 2),)


def some_picture(source, stage):
    """A picture, and a dict of its colours."""
    colours = {cell: source.choice(slow.COLOURS) for cell in slow.cells_of(stage)}
    return Picture.of_cells(stage, tuple(colours.items())), colours


def great_picture(stage, colours):
    """The picture that is 10 ** 11 times as large."""
    patches = [
        (name, slow.scaled_rect((x, y, 1, 1)), colour) for (name, x, y), colour in colours.items()
    ]
    return Picture(slow.scaled_stage(stage), *patches)


def walk(stage, orders, parts, colours, cell):
    """What `trace` is to return, as the document tells it."""
    done = slow.records(stage, orders, parts)
    before = []
    for one_record in done:
        before.append(colours)
        colours = slow.performed(one_record, colours)
    indexes = []
    for index in reversed(range(len(done))):
        (word, last), cells = done[index]
        if cell not in cells:
            continue
        if word == "fill":
            return (tuple(sorted([*indexes, index])), None)
        if word == "copy" and (last is None or before[index][cells[cell]] != last):
            indexes.append(index)
            cell = cells[cell]
        elif word == "recolour":
            colour = before[index][cell]
            if dict(last).get(colour, colour) != colour:
                indexes.append(index)
    return (tuple(sorted(indexes)), cell)


class PaintingTest(unittest.TestCase):
    def check(self, orders, parts=(), stage=SMALL, seed=1):
        """Check all three functions beside colours found cell by cell, also 10 ** 11 times as large."""
        with self.subTest(orders=orders, parts=parts, stage=stage):
            picture, colours = some_picture(random.Random(seed), stage)
            script = Script(stage, orders, parts=parts)
            expected = slow.painted(stage, orders, colours, parts)
            end = paint(script, picture)
            self.assertIs(type(end), Picture)
            self.assertEqual(end, Picture.of_cells(stage, tuple(expected.items())))
            self.assertEqual({cell: end[cell] for cell in colours}, expected)
            self.assertEqual({cell: probe(script, picture, cell) for cell in colours}, expected)
            traces = {cell: trace(script, picture, cell) for cell in colours}
            self.assertEqual(traces, {cell: walk(stage, orders, parts, colours, cell) for cell in colours})
            self.assertEqual(picture, Picture.of_cells(stage, tuple(colours.items())))
            self.assertEqual((script.orders, script.parts), (orders, parts))
            self.check_great(orders, parts, stage, colours, expected, traces)

    def check_great(self, orders, parts, stage, colours, expected, traces):
        great = Script(slow.scaled_stage(stage), slow.scaled_orders(orders), parts=slow.scaled_parts(parts))
        picture = great_picture(stage, colours)
        end = paint(great, picture)
        self.assertEqual(end, great_picture(stage, expected))
        for cell in list(colours)[::5]:
            for corner in slow.corners(cell):
                self.assertEqual(end[corner], expected[cell])
                self.assertEqual(probe(great, picture, corner), expected[cell])
                indexes, origin = trace(great, picture, corner)
                self.assertEqual(indexes, traces[cell][0])
                self.assertIn(origin, [None] if traces[cell][1] is None else slow.corners(traces[cell][1]))

    def test_each_order(self):
        source = random.Random(1)
        for word in ("fill", "recolour", "copy"):
            for seed in range(60):
                self.check((slow.some_order(source, SMALL, (word,)),), seed=seed)

    def test_overlapping_copies_onto_the_surface_that_is_read(self):
        source = random.Random(2)
        for mirror in ("none", "across", "down", "both"):
            for key in (None, 0, 7):
                for seed in range(12):
                    order = ("copy", "a", (source.randint(0, 2), 0, 4, 2), "a", source.randint(0, 3), source.randint(0, 1),
                             mirror, key)
                    self.check((order,), (), WIDE, seed)
                    self.check((order, order), (), WIDE, seed)

    def test_many_orders(self):
        source = random.Random(3)
        for many in range(1, 9):
            for seed in range(12):
                self.check(slow.some_orders(source, SMALL, many), (), SMALL, seed)
                self.check(slow.some_orders(source, WIDE, many), (), WIDE, seed)

    def test_frames_up_to_six_levels(self):
        source = random.Random(4)
        for many in range(1, 6):
            for seed in range(20):
                self.check(slow.some_orders(source, SMALL, many, 5), (), SMALL, seed)

    def test_parts(self):
        source = random.Random(5)
        for seed in range(40):
            parts = (("p", slow.some_orders(source, SMALL, 1, 2)), ("q", (("call", "p"), slow.some_order(source, SMALL, ("fill",)))))
            orders = (slow.framed(source, (("call", "q"),)), slow.some_order(source, SMALL), ("call", "p"))
            if slow.in_limits(SMALL, orders, parts):
                self.check(orders, parts, SMALL, seed)

    def test_keyed_copies_behind_one_another(self):
        source = random.Random(6)
        for seed in range(80):
            words = ["copy", "recolour", "copy", "recolour", "recolour"]
            orders = tuple(slow.some_order(source, WIDE, (word,), (0, 1, 7)) for word in words)
            self.check(orders, (), WIDE, seed)

    def test_without_strokes(self):
        self.check(())
        self.check((("fill", "a", (9, 9, 1, 1), 5),))

    def test_a_pixel_that_comes_from_a_fill(self):
        script = Script(WIDE, (("fill", "a", (0, 0, 1, 1), 5), ("copy", "a", (0, 0, 1, 1), "a", 3, 0, "none", None)))
        self.assertEqual(trace(script, Picture(WIDE), ("a", 3, 0)), ((0, 1), None))
        self.assertEqual(trace(script, Picture(WIDE), ("a", 0, 0)), ((0,), None))
        self.assertEqual(trace(script, Picture(WIDE), ("a", 4, 0)), ((), ("a", 4, 0)))

    def test_a_recolour_of_a_colour_into_itself_is_not_in_a_trace(self):
        script = Script(WIDE, (("recolour", "a", (0, 0, 6, 2), ((0, 0), (1, 2))), ("recolour", "a", (0, 0, 6, 2), ((0, 3),))))
        self.assertEqual(trace(script, Picture(WIDE), ("a", 3, 0)), ((1,), ("a", 3, 0)))
        self.assertEqual(trace(script, Picture(WIDE, ground=1), ("a", 3, 0)), ((0,), ("a", 3, 0)))

    def test_a_copy_onto_itself_is_in_a_trace(self):
        script = Script(WIDE, (("copy", "a", (0, 0, 6, 2), "a", 0, 0, "none", None),))
        self.assertEqual(trace(script, Picture(WIDE), ("a", 3, 0)), ((0,), ("a", 3, 0)))

    def test_by_name(self):
        script, picture = Script(WIDE, (("fill", "a", (0, 0, 1, 1), 5),)), Picture(WIDE)
        self.assertEqual(paint(script=script, picture=picture), paint(picture=picture, script=script))
        self.assertEqual(probe(cell=("a", 0, 0), picture=picture, script=script), 5)
        self.assertEqual(trace(cell=("a", 0, 0), picture=picture, script=script), ((0,), None))

    def test_kinds(self):
        found = trace(Script(WIDE), Picture(WIDE), ("a", 0, 0))
        self.assertEqual([type(found), type(found[0]), type(found[1])], [tuple, tuple, tuple])
        for name in ("paint", "probe", "trace"):
            self.assertEqual(vars(painting)[name].__module__, "allscreens.painting")

    def test_equal_calls_return_equal_results(self):
        source = random.Random(7)
        script = Script(SMALL, slow.some_orders(source, SMALL, 6))
        picture, colours = some_picture(source, SMALL)
        self.assertEqual(paint(script, picture), paint(script, picture))
        self.assertEqual([trace(script, picture, cell) for cell in colours], [trace(script, picture, cell) for cell in colours])

    def test_the_example_of_the_document(self):
        run_example(self, EXAMPLE)


class ErrorsTest(unittest.TestCase):
    script, picture = Script(STAGE), Picture(STAGE)
    other_stage = (("a", 3, 5), ("c", 9, 9))

    def test_what_is_not_a_script(self):
        for value in ODD_VALUES + (0, STAGE, (), self.picture, Script, "fill a 0 0 1 1 5", (("fill", "a", (0, 0, 1, 1), 5),)):
            check_raises(self, NotAScript, value, paint, value, self.picture)
            check_raises(self, NotAScript, value, paint, value, None)
            check_raises(self, NotAScript, value, paint, picture=value, script=value)
            for call in (probe, trace):
                check_raises(self, NotAScript, value, call, value, self.picture, ("a", 0, 0))
                check_raises(self, NotAScript, value, call, script=value, picture=value, cell=value)

    def test_what_is_not_a_picture(self):
        for value in ODD_VALUES + (0, STAGE, (), self.script, Picture, {("a", 0, 0): 0}):
            check_raises(self, NotAPicture, value, paint, self.script, value)
            check_raises(self, NotAPicture, value, paint, script=self.script, picture=value)
            for call in (probe, trace):
                check_raises(self, NotAPicture, value, call, self.script, value, ("a", 0, 0))
                check_raises(self, NotAPicture, value, call, script=self.script, picture=value, cell=value)

    def test_what_is_not_a_cell(self):
        for value in NOT_CELLS:
            for call in (probe, trace):
                check_raises(self, InvalidCell, value, call, self.script, self.picture, value)
                check_raises(self, InvalidCell, value, call, self.script, Picture(self.other_stage), value)
                check_raises(self, InvalidCell, value, call, cell=value, script=self.script, picture=self.picture)

    def test_different_stages(self):
        for stage in (self.other_stage, STAGE[:2], (("a", 3, 6),) + STAGE[1:]):
            self.assertEqual(vars(raised_by(self, DifferentStages, paint, self.script, Picture(stage))), {})
            raised_by(self, DifferentStages, paint, Script(stage), self.picture)
            for call in (probe, trace):
                raised_by(self, DifferentStages, call, self.script, Picture(stage), ("a", 0, 0))
                raised_by(self, DifferentStages, call, picture=Picture(stage), script=self.script, cell=("b", 5, 5))

    def test_the_cell_belongs_to_the_stage_of_the_script(self):
        for call in (probe, trace):
            cell = ("c", 0, 0)
            check_raises(self, InvalidCell, cell, call, self.script, Picture(self.other_stage), cell)
            raised_by(self, DifferentStages, call, Script(self.other_stage), self.picture, cell)


if __name__ == "__main__":
    unittest.main()
