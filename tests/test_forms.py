import itertools
import random
import unittest

import slow_forms
from allscreens import forms
from allscreens.errors import InvalidForm, InvalidStage, NotAPicture
from allscreens.forms import is_form, reduced, same_value, value_of
from allscreens.pictures import Picture
from helpers import (
    BOUND, NOT_CELLS, NOT_COLOURS, NOT_STAGES, ODD_VALUES, STAGE, AlwaysEqual, check_raises, run_example,
)

EXAMPLE = """
>>> from allscreens.forms import reduced, same_value
>>> stage, c, d = (("a", 9, 1),), ("a", 0, 0), ("a", 1, 0)
>>> form = ("ask", d, ((5, ("colour", 5)),), ("ask", c, ((1, ("colour", 1)), (2, ("cell", d))), ("cell", c)))
>>> [reduced(stage, ("ask", d, ((5, ("colour", 5)),), ("cell", d))), reduced(stage, form), same_value(stage, form, ("cell", c))]
[('cell', ('a', 1, 0)), ('ask', ('a', 0, 0), ((2, ('cell', ('a', 1, 0))),), ('ask', ('a', 1, 0), ((5, ('colour', 5)),), ('cell', ('a', 0, 0)))), False]
"""

TOP = 10 ** 9

# Cells in ascending order: names come before numbers, and x before y.
CELLS = (("a", 0, 0), ("a", 0, 4), ("a", 2, 0), ("ab", BOUND - 1, 0), ("b", 9, 10), ("b", 10, 9))

ONE, OTHER = CELLS[0], CELLS[1]
FIVE = ("colour", 5)

GOOD_FORMS = (
    ("colour", 0), ("colour", TOP), ("cell", ONE), ("cell", ("b", BOUND - 1, BOUND - 1)),
    ("ask", ONE, ((5, FIVE),), FIVE), ("ask", ONE, ((0, FIVE), (TOP, ("cell", ONE))), ("cell", ONE)),
    ("ask", OTHER, ((5, ("ask", ONE, ((1, FIVE),), FIVE)),), ("ask", OTHER, ((5, FIVE), (6, FIVE), (7, FIVE)), FIVE)),
)

NOT_TUPLES = ODD_VALUES + (0, 1, [(5, FIVE)], [], {5: FIVE}, "ab")

BAD_FORMS = [
    *ODD_VALUES, 0, 5, (), ("",), ("colour",), ("cell",), ("ask",), "colour", ["colour", 5], ["cell", ONE], ONE, (FIVE,),
    ("colour", 5, 5), ("cell", ONE, ONE), ("colour", ONE), ("cell", 5), ("cell", "a", 0, 0), ("Colour", 5), ("cells", ONE),
    (5, "colour"), (None, 5), (AlwaysEqual(), 5), (("colour",), 5), ("fill", 5),
    *[("colour", value) for value in NOT_COLOURS], *[("cell", value) for value in NOT_CELLS],
    ("ask", ONE), ("ask", ONE, ((5, FIVE),)), ("ask", ONE, ((5, FIVE),), FIVE, FIVE), ("ask", ONE, FIVE, ((5, FIVE),)),
    ["ask", ONE, ((5, FIVE),), FIVE], ("Ask", ONE, ((5, FIVE),), FIVE), ("cell", ONE, ((5, FIVE),), FIVE), ("ask", ONE, (), FIVE), ("ask", ONE, (5, FIVE), FIVE), ("ask", ONE, ((5,),), FIVE),
    ("ask", ONE, ((5, FIVE, FIVE),), FIVE), ("ask", ONE, ([5, FIVE],), FIVE), ("ask", ONE, ((FIVE, 5),), FIVE),
    ("ask", ONE, ((5, FIVE), (5, FIVE)), FIVE), ("ask", ONE, ((6, FIVE), (5, FIVE)), FIVE),
    ("ask", ONE, ((1, FIVE), (3, FIVE), (2, FIVE)), FIVE), ("ask", ONE, ((5, FIVE), None), FIVE),
    *[("ask", value, ((5, FIVE),), FIVE) for value in NOT_CELLS],
    *[("ask", ONE, value, FIVE) for value in NOT_TUPLES], *[("ask", ONE, ((value, FIVE),), FIVE) for value in NOT_COLOURS],
    *[("ask", ONE, (value,), FIVE) for value in NOT_TUPLES],
]
BAD_FORMS += [("ask", ONE, ((5, value),), FIVE) for value in BAD_FORMS] + [
    ("ask", ONE, ((4, FIVE), (5, value), (6, FIVE)), ("cell", ONE)) for value in BAD_FORMS[:60]] + [
    ("ask", ONE, ((5, FIVE),), value) for value in BAD_FORMS] + [
    ("ask", ONE, ((5, ("ask", OTHER, ((5, value),), FIVE)),), FIVE) for value in BAD_FORMS[:60]]


class IsFormTest(unittest.TestCase):
    def test_forms(self):
        for form in GOOD_FORMS:
            self.assertIs(is_form(STAGE, form), True)
            self.assertIs(is_form(value=("ask", ONE, ((1, form),), form), stage=STAGE), True)

    def test_other_values(self):
        for value in BAD_FORMS:
            with self.subTest(value=value):
                self.assertIs(is_form(STAGE, value), False)

    def test_the_stage_counts(self):
        self.assertIs(is_form((("c", 9, 9),), ("cell", ("a", 0, 0))), False)
        self.assertIs(is_form((("a", 3, 5),), ("cell", ("a", 2, 4))), True)
        self.assertIs(is_form((("a", 2, 5),), ("cell", ("a", 2, 4))), False)

    def test_many_levels(self):
        form = FIVE
        for at in range(25):
            form = ("ask", CELLS[at % 6], ((at, FIVE),), form)
        self.assertIs(is_form(STAGE, form), True)
        self.assertIs(is_form(STAGE, ("ask", ONE, ((1, FIVE),), form[:3] + (None,))), False)

    def test_errors(self):
        for value in NOT_STAGES:
            check_raises(self, InvalidStage, value, is_form, value, FIVE)
            check_raises(self, InvalidStage, value, is_form, stage=value, value=None)


class ReducedTest(unittest.TestCase):
    def check(self, form):
        """Check a reduced form beside the values, and that it is as point 14 says."""
        with self.subTest(form=form):
            found = reduced(STAGE, form)
            self.assertIs(is_form(STAGE, found), True)
            self.assertTrue(slow_forms.same_values(found, form))
            self.assertTrue(slow_forms.is_reduced(found))
            self.assertEqual(reduced(STAGE, found), found)
            return found

    def test_leaves(self):
        for form in GOOD_FORMS[:4]:
            self.assertEqual(reduced(STAGE, form), form)

    def test_asks_that_are_not_needed(self):
        self.assertEqual(self.check(("ask", ONE, ((5, FIVE),), FIVE)), FIVE)
        self.assertEqual(self.check(("ask", ONE, ((5, FIVE),), ("cell", ONE))), ("cell", ONE))
        self.assertEqual(self.check(("ask", ONE, ((5, ("cell", ONE)),), ("cell", ONE))), ("cell", ONE))
        self.assertEqual(self.check(("ask", ONE, ((5, ("cell", ONE)),), FIVE)), FIVE)
        self.assertEqual(self.check(("ask", ONE, ((5, ("cell", OTHER)),), ("cell", OTHER))), ("cell", OTHER))
        self.assertEqual(
            self.check(("ask", ONE, ((4, ("cell", ONE)), (5, ("cell", OTHER))), ("cell", ONE))),
            ("ask", ONE, ((5, ("cell", OTHER)),), ("cell", ONE)))

    def test_the_same_cell_asked_again(self):
        inner = ("ask", ONE, ((1, ("colour", 11)), (2, ("colour", 12))), ("colour", 13))
        self.assertEqual(
            self.check(("ask", ONE, ((1, inner), (3, inner)), inner)),
            ("ask", ONE, ((1, ("colour", 11)), (2, ("colour", 12))), ("colour", 13)))
        self.assertEqual(
            self.check(("ask", ONE, ((2, ("colour", 14)),), inner)),
            ("ask", ONE, ((1, ("colour", 11)), (2, ("colour", 14))), ("colour", 13)))

    def test_the_least_cell_is_asked_first(self):
        form = ("ask", OTHER, ((1, ("ask", ONE, ((2, ("colour", 7)),), FIVE)),), FIVE)
        self.assertEqual(self.check(form), ("ask", ONE, ((2, ("ask", OTHER, ((1, ("colour", 7)),), FIVE)),), FIVE))

    def test_cells_are_in_the_order_of_tuples(self):
        for one, other in itertools.combinations(CELLS, 2):
            form = ("ask", other, ((1, ("ask", one, ((2, ("colour", 7)),), FIVE)),), FIVE)
            self.assertEqual(self.check(form), ("ask", one, ((2, ("ask", other, ((1, ("colour", 7)),), FIVE)),), FIVE))

    def test_a_lesser_cell_may_stand_at_the_end_of_an_ask(self):
        form = ("ask", OTHER, ((5, ("cell", ONE)),), ("cell", ONE))
        self.assertEqual(self.check(form), ("cell", ONE))
        form = ("ask", OTHER, ((5, FIVE),), ("cell", ONE))
        self.assertEqual(self.check(form), form)
        form = ("ask", OTHER, ((5, ("cell", ONE)),), ("cell", OTHER))
        self.assertEqual(self.check(form), form)

    def test_that_two_cells_are_equal_is_not_asked(self):
        form = ("ask", ONE, ((5, ("cell", OTHER)),), ("cell", ONE))
        found = self.check(("ask", OTHER, ((5, form),), form))
        self.assertEqual(found, form)

    def test_many_forms(self):
        source = random.Random(1)
        for many, named, depth, times in ((1, 4, 4, 60), (2, 3, 3, 80), (3, 2, 4, 60), (4, 2, 3, 30), (5, 2, 4, 10), (6, 1, 6, 8)):
            for _ in range(times):
                cells = source.sample(CELLS, many)
                self.check(slow_forms.some_form(source, cells, (0, 1, 7, TOP)[:named], depth))

    def test_forms_with_many_cells_beside_the_values_for_some_pictures(self):
        source = random.Random(2)
        named = tuple(range(4))
        for _ in range(12):
            form = slow_forms.some_form(source, CELLS, named, 3)
            found = reduced(STAGE, form)
            for _ in range(50):
                colours = {cell: source.choice((*named, 50 + at)) for at, cell in enumerate(CELLS)}
                self.assertEqual(slow_forms.value(found, colours), slow_forms.value(form, colours))

    def test_written_in_other_ways(self):
        source = random.Random(3)
        for _ in range(150):
            cells, named = source.sample(CELLS, source.randint(1, 3)), (0, 1, 7)
            form = slow_forms.some_form(source, cells, named, 2)
            other = slow_forms.rewritten(source, form, cells, named)
            self.assertEqual(reduced(STAGE, form), reduced(STAGE, other))
            self.assertIs(same_value(STAGE, form, other), True)

    def test_a_long_chain_from_the_greatest_cell_to_the_least(self):
        form = ("colour", 99)
        for at, cell in enumerate(CELLS):
            form = ("ask", cell, tuple((colour, ("colour", 10 * at + colour)) for colour in range(8)), form)
        found = reduced(STAGE, form)
        source = random.Random(4)
        for _ in range(300):
            colours = {cell: source.randrange(10) for cell in CELLS}
            self.assertEqual(slow_forms.value(found, colours), slow_forms.value(form, colours))
        self.assertIs(same_value(STAGE, form, ("ask", ONE, ((5, form),), form)), True)

    def test_by_name(self):
        self.assertEqual(reduced(stage=STAGE, form=FIVE), FIVE)
        self.assertEqual(reduced(form=FIVE, stage=STAGE), FIVE)

    def test_errors(self):
        for value in NOT_STAGES:
            check_raises(self, InvalidStage, value, reduced, value, FIVE)
            check_raises(self, InvalidStage, value, reduced, form=None, stage=value)
        for value in BAD_FORMS:
            check_raises(self, InvalidForm, value, reduced, STAGE, value)
            check_raises(self, InvalidForm, value, reduced, form=value, stage=STAGE)

    def test_the_example_of_the_document(self):
        run_example(self, EXAMPLE)


class ValueTest(unittest.TestCase):
    def test_values(self):
        source = random.Random(5)
        for _ in range(300):
            colours = {cell: source.choice((0, 1, 7, 9)) for cell in CELLS}
            picture = Picture.of_cells(STAGE, tuple(colours.items()))
            form = slow_forms.some_form(source, CELLS, (0, 1, 7), 3)
            self.assertEqual(value_of(picture, form), slow_forms.value(form, colours))
            self.assertEqual(value_of(form=form, picture=picture), value_of(picture, reduced(STAGE, form)))

    def test_errors(self):
        picture = Picture(STAGE)
        for value in ODD_VALUES + (0, STAGE, {ONE: 0}, Picture):
            check_raises(self, NotAPicture, value, value_of, value, FIVE)
            check_raises(self, NotAPicture, value, value_of, form=None, picture=value)
        for value in BAD_FORMS:
            check_raises(self, InvalidForm, value, value_of, picture, value)
            check_raises(self, InvalidForm, value, value_of, form=value, picture=picture)
        form = ("cell", ("c", 0, 0))
        check_raises(self, InvalidForm, form, value_of, picture, form)


class SameValueTest(unittest.TestCase):
    def test_beside_the_values(self):
        source = random.Random(6)
        found = []
        for _ in range(600):
            cells, named = source.sample(CELLS, source.randint(1, 2)), (0, 7)[:source.randint(1, 2)]
            form, other = [slow_forms.some_form(source, cells, named, source.randint(0, 2)) for _ in range(2)]
            found.append(slow_forms.same_values(form, other))
            self.assertIs(same_value(STAGE, form, other), found[-1])
            self.assertIs(same_value(stage=STAGE, other_form=form, form=other), found[-1])
        self.assertEqual({found.count(True) > 50, found.count(False) > 50}, {True})

    def test_forms_that_differ_for_one_colour_only(self):
        form = ("ask", ONE, ((TOP, FIVE),), ("cell", ONE))
        self.assertIs(same_value(STAGE, form, ("cell", ONE)), False)
        self.assertIs(same_value(STAGE, ("cell", ONE), ("cell", OTHER)), False)
        self.assertIs(same_value(STAGE, ("colour", 5), ("colour", 6)), False)
        self.assertIs(same_value(STAGE, FIVE, ("colour", 5)), True)

    def test_errors(self):
        for value in NOT_STAGES:
            check_raises(self, InvalidStage, value, same_value, value, None, None)
        for value in BAD_FORMS:
            check_raises(self, InvalidForm, value, same_value, STAGE, value, FIVE)
            check_raises(self, InvalidForm, value, same_value, STAGE, value, None)
            check_raises(self, InvalidForm, value, same_value, STAGE, FIVE, value)
            check_raises(self, InvalidForm, value, same_value, other_form=(), form=value, stage=STAGE)

    def test_the_interface_is_defined_here(self):
        for name in ("is_form", "reduced", "value_of", "same_value"):
            self.assertEqual(vars(forms)[name].__module__, "allscreens.forms")

    def test_arguments_stay_as_they_were_and_equal_calls_return_equal_results(self):
        form = slow_forms.some_form(random.Random(7), CELLS, (0, 1, 7), 3)
        again = slow_forms.some_form(random.Random(7), CELLS, (0, 1, 7), 3)
        self.assertEqual(reduced(STAGE, form), reduced(STAGE, again))
        self.assertEqual(form, again)


if __name__ == "__main__":
    unittest.main()
