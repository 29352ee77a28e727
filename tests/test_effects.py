import itertools
import random
import unittest

import slow
import slow_forms
from allscreens import effects
from allscreens.effects import Effect
from allscreens.errors import DifferentStages, InvalidCell, InvalidSurface, NotAPicture, NotAScript
from allscreens.forms import is_form, reduced, value_of
from allscreens.painting import paint, probe
from allscreens.pictures import Picture
from allscreens.regions import Region
from allscreens.scripts import Script
from helpers import BOUND, NOT_CELLS, NOT_SURFACES, ODD_VALUES, STAGE, check_raises, raised_by, run_example

EXAMPLE = """
>>> from allscreens.effects import Effect
>>> from allscreens.scripts import Script
>>> stage = (("a", 4, 1), ("b", 4, 1))
>>> effect = Effect(Script(stage, (("copy", "b", (0, 0, 4, 1), "a", 0, 0, "none", 0), ("fill", "a", (3, 0, 1, 1), 9))))
>>> colour, region = effect.sure("a")[0]
>>> [effect.at(("a", 1, 0)), effect.at(("b", 1, 0)), len(effect.sure("a")), colour, region.rects]
[('ask', ('b', 1, 0), ((0, ('cell', ('a', 1, 0))),), ('cell', ('b', 1, 0))), ('cell', ('b', 1, 0)), 1, 9, ((3, 0, 1, 1),)]
"""

SMALL = (("a", 4, 2), ("b", 3, 3))
ROW = (("a", 5, 1),)


def near(place, size):
    """A place of a surface, those beside it and the middle."""
    return sorted({at for at in (place - 1, place, place + 1, size // 2, 0, size - 1) if 0 <= at < size})


def cells_near(stage, strokes):
    """Cells at the edges of what strokes write, beside them, and in the middle."""
    found = []
    for name, width, height in stage:
        xs, ys = {0, width - 1, width // 2}, {0, height - 1, height // 2}
        for stroke in strokes:
            rect = (stroke[4], stroke[5], *stroke[2][2:]) if stroke[0] == "copy" else stroke[2]
            for x in (rect[0], rect[0] + rect[2] - 1, rect[0] + rect[2] // 2):
                xs |= set(near(x, width))
            for y in (rect[1], rect[1] + rect[3] - 1):
                ys |= set(near(y, height))
        found += [(name, x, y) for x, y in itertools.product(sorted(xs), sorted(ys))]
    return found


class EffectTest(unittest.TestCase):
    def check_cell(self, effect, strokes, cell):
        """Check the form of a cell beside the colours found by going back through the strokes."""
        form = effect.at(cell)
        self.assertIs(is_form(effect.stage, form), True)
        self.assertTrue(slow_forms.is_reduced(form), form)
        origins = slow_forms.origins(strokes, cell)
        self.assertLessEqual(slow_forms.cells_in(form), origins)
        for colours in slow_forms.assignments(origins, slow_forms.named_in(strokes)):
            self.assertEqual(slow_forms.value(form, colours), slow_forms.end_colour(strokes, cell, colours))
        return form

    def check(self, orders, stage=SMALL, parts=()):
        with self.subTest(orders=orders, stage=stage):
            script = Script(stage, orders, parts=parts)
            effect = Effect(script)
            self.assertEqual(effect.stage, stage)
            forms = {cell: self.check_cell(effect, script.strokes, cell) for cell in slow.cells_of(stage)}
            for surface, _, _ in stage:
                self.check_sure(effect.sure(surface), {cell: forms[cell] for cell in forms if cell[0] == surface})
            source = random.Random(len(orders))
            colours = {cell: source.choice(slow.COLOURS) for cell in forms}
            picture = Picture.of_cells(stage, tuple(colours.items()))
            end = effect(picture)
            self.assertEqual(end, paint(script, picture))
            self.assertEqual({cell: value_of(picture, forms[cell]) for cell in forms}, {cell: end[cell] for cell in forms})

    def check_sure(self, found, forms):
        expected = {}
        for (_, x, y), form in forms.items():
            if form[0] == "colour":
                expected.setdefault(form[1], []).append((x, y, 1, 1))
        self.assertIs(type(found), tuple)
        self.assertEqual(found, tuple((colour, Region(*expected[colour])) for colour in sorted(expected)))

    def test_each_order(self):
        source = random.Random(1)
        for word in ("fill", "recolour", "copy"):
            for _ in range(30):
                self.check((slow.some_order(source, SMALL, (word,)),))

    def test_many_orders(self):
        source = random.Random(2)
        for many in range(2, 9):
            for _ in range(25):
                self.check(slow.some_orders(source, SMALL, many))
                self.check(slow.some_orders(source, ROW, many), ROW)

    def test_frames(self):
        source = random.Random(3)
        for _ in range(100):
            self.check(slow.some_orders(source, SMALL, 4, 5))

    def test_keyed_copies_with_recolourings_between(self):
        source = random.Random(4)
        for words in (("copy", "copy"), ("copy", "recolour", "copy"), ("recolour", "copy", "recolour", "copy", "recolour")):
            for _ in range(120):
                self.check(tuple(slow.some_order(source, ROW, (word,), (0, 1, 7)) for word in words), ROW)

    def test_copies_onto_the_surface_that_is_read(self):
        for mirror, key in itertools.product(("none", "across", "down", "both"), (None, 7)):
            order = ("copy", "a", (0, 0, 4, 2), "a", 1, 0, mirror, key)
            self.check((order, order))
            self.check((("copy", "b", (0, 0, 3, 3), "b", 0, 0, mirror, key), ("recolour", "b", (0, 0, 2, 2), ((7, 1),))))

    def test_without_strokes(self):
        self.check(())
        self.assertEqual(Effect(Script(SMALL)).at(("a", 3, 1)), ("cell", ("a", 3, 1)))
        self.assertEqual(Effect(Script(SMALL)).sure("a"), ())

    def test_a_colour_that_is_sure_without_a_fill_there(self):
        orders = (("recolour", "a", (0, 0, 4, 2), ((1, 7),)), ("copy", "a", (0, 0, 2, 1), "a", 2, 0, "none", None),
                  ("fill", "a", (0, 0, 4, 1), 3), ("copy", "a", (0, 0, 4, 1), "b", 0, 0, "across", 3),
                  ("copy", "a", (0, 0, 4, 1), "b", 0, 1, "across", 4))
        self.check(orders)
        self.assertEqual(Effect(Script(SMALL, orders)).sure("b"), ((3, Region((0, 1, 3, 1))),))
        self.assertEqual(Effect(Script(SMALL, orders)).sure(surface="a"), ((3, Region((0, 0, 4, 1))),))

    def test_large_surfaces(self):
        source = random.Random(5)
        stage = slow.scaled_stage(SMALL)
        for _ in range(30):
            orders = slow.scaled_orders(slow.some_orders(source, SMALL, 5))
            script = Script(stage, orders)
            effect = Effect(script)
            forms = {}
            for cell in cells_near(stage, script.strokes)[::3]:
                forms[cell] = self.check_cell(effect, script.strokes, cell)
            for surface, _, _ in stage:
                regions = dict(effect.sure(surface))
                for cell in [cell for cell in forms if cell[0] == surface]:
                    found = [colour for colour, region in regions.items() if cell[1:] in region]
                    self.assertEqual(found, [forms[cell][1]] if forms[cell][0] == "colour" else [])

    def test_the_middle_of_a_mirrored_copy(self):
        for width in (BOUND, BOUND - 1):
            stage = (("a", width, 3),)
            copy = ("copy", "a", (0, 0, width, 3), "a", 0, 0, "across", 4)
            effect = Effect(Script(stage, (copy,)))
            for x in (0, 1, width // 2 - 1, width // 2, width // 2 + 1, width - 1):
                other = ("a", width - 1 - x, 1)
                expected = ("ask", other, ((4, ("cell", ("a", x, 1))),), ("cell", other))
                self.assertEqual(effect.at(("a", x, 1)), ("cell", other) if other[1] == x else expected)

    def test_by_name(self):
        effect = Effect(script=Script(SMALL))
        self.assertEqual(effect.at(cell=("a", 0, 0)), ("cell", ("a", 0, 0)))
        self.assertEqual(effect(picture=Picture(SMALL)), Picture(SMALL))

    def test_equality_and_repr(self):
        script = Script(SMALL, (("fill", "a", (0, 0, 1, 1), 5),))
        one, other = Effect(script), Effect(script)
        self.assertIs(one == one, True)
        self.assertIs(one != one, False)
        self.assertIs(one == other, False)
        self.assertIs(one != other, True)
        for value in (None, True, 0, "", (), [], {}, object(), Effect, script, SMALL, repr(one)):
            self.assertIs(one == value, False)
            self.assertIs(one != value, True)
        self.assertEqual(repr(one), "Effect(2 surfaces)")
        self.assertEqual(str(Effect(Script(ROW))), "Effect(1 surfaces)")
        self.assertIs(bool(Effect(Script(ROW))), True)

    def test_the_class_has_all_that_the_document_lists(self):
        for name in ("__init__", "stage", "at", "__call__", "sure", "__repr__"):
            self.assertIn(name, vars(Effect))
        self.assertIsInstance(vars(Effect)["stage"], property)
        self.assertEqual(effects.Effect.__module__, "allscreens.effects")

    def test_equal_calls_return_equal_results_whatever_was_asked_before(self):
        orders = slow.some_orders(random.Random(6), SMALL, 6)
        one, other = Effect(Script(SMALL, orders)), Effect(Script(SMALL, orders))
        cells = slow.cells_of(SMALL)
        first = [one.at(cell) for cell in cells]
        other.sure("b"), other(Picture(SMALL)), other.sure("a")
        self.assertEqual([other.at(cell) for cell in reversed(cells)][::-1], first)
        self.assertEqual([one.at(cell) for cell in cells], first)
        self.assertEqual([one.sure("a"), one.sure("b")], [other.sure("a"), other.sure("b")])

    def test_the_example_of_the_document(self):
        run_example(self, EXAMPLE)


class ErrorsTest(unittest.TestCase):
    def test_errors(self):
        effect = Effect(Script(STAGE))
        for value in ODD_VALUES + (0, STAGE, Picture(STAGE), effect, Script):
            check_raises(self, NotAScript, value, Effect, value)
            check_raises(self, NotAScript, value, Effect, script=value)
        for value in NOT_CELLS:
            check_raises(self, InvalidCell, value, effect.at, value)
            check_raises(self, InvalidCell, value, effect.at, cell=value)
        for value in NOT_SURFACES:
            check_raises(self, InvalidSurface, value, effect.sure, value)
            check_raises(self, InvalidSurface, value, effect.sure, surface=value)
        for value in ODD_VALUES + (0, STAGE, Script(STAGE), effect, Picture):
            check_raises(self, NotAPicture, value, effect, value)
            check_raises(self, NotAPicture, value, effect, picture=value)
        for stage in (SMALL, STAGE[:2]):
            self.assertEqual(vars(raised_by(self, DifferentStages, effect, Picture(stage))), {})
            raised_by(self, DifferentStages, Effect(Script(stage)), picture=Picture(STAGE))


class OneResultTest(unittest.TestCase):
    def test_painting_probing_and_the_effect_agree(self):
        source = random.Random(7)
        stage = slow.scaled_stage(SMALL)
        for _ in range(40):
            script = Script(stage, slow.scaled_orders(slow.some_orders(source, SMALL, 6, 2)))
            patches = [(source.choice("ab"), slow.scaled_rect(slow.some_rect(source)), source.choice(slow.COLOURS)) for _ in range(6)]
            picture = Picture(stage, *patches)
            effect, end = Effect(script), paint(script, picture)
            self.assertEqual(effect(picture), end)
            for cell in cells_near(stage, script.strokes)[::7]:
                form = effect.at(cell)
                self.assertEqual(reduced(stage, form), form)
                self.assertEqual({end[cell], probe(script, picture, cell), value_of(picture, form)}, {end[cell]})


if __name__ == "__main__":
    unittest.main()
