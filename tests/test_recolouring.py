import itertools
import random
import unittest

from allscreens import recolouring
from allscreens.errors import InvalidColour, InvalidPairs
from allscreens.recolouring import combined, keeps_apart, recoloured
from helpers import NOT_COLOURS, NOT_PAIRS, check_raises, run_example

TOP = 10 ** 9

EXAMPLE = """
>>> from allscreens.recolouring import combined, keeps_apart, recoloured
>>> [recoloured(3, ((3, 5),)), combined(((1, 2),), ((2, 1), (7, 8))), keeps_apart(((1, 2),)), keeps_apart(((1, 2),), ((2, 3),)), keeps_apart(())]
[5, ((2, 1), (7, 8)), False, True, True]
"""


def tables_over(colours, most):
    """All tables of at most so many pairs of these colours."""
    pairs = list(itertools.product(colours, colours))
    return [
        chosen
        for many in range(most + 1) for chosen in itertools.combinations(pairs, many)
        if len({old for old, _ in chosen}) == many
    ]


def turn(colour, pairs):
    for old, new in pairs:
        if old == colour:
            return new
    return colour


TABLES = tables_over((0, 1, TOP), 3)

ROUNDS = (
    ((1, 2), (2, 1)), ((1, 2), (2, 3), (3, 1)), ((0, TOP), (TOP, 0)), ((1, 1),), ((0, 0), (5, 5), (TOP, TOP)),
    ((1, 2), (2, 2), (3, 2)), ((0, 1), (1, 2), (2, 3), (3, 4), (4, 0)),
)


class RecolouredTest(unittest.TestCase):
    def test_tables(self):
        for table in [*TABLES, *ROUNDS]:
            for colour in (0, 1, 2, 3, 4, 5, 6, TOP - 1, TOP):
                self.assertEqual(recoloured(colour, table), turn(colour, table))

    def test_a_colour_is_not_turned_twice(self):
        self.assertEqual([recoloured(colour, ((1, 2), (2, 3))) for colour in range(5)], [0, 2, 3, 3, 4])

    def test_many_pairs(self):
        table = tuple((old, TOP - old) for old in range(1000))
        self.assertEqual([recoloured(colour, table) for colour in (0, 999, 1000)], [TOP, TOP - 999, 1000])

    def test_by_name(self):
        self.assertEqual(recoloured(colour=3, pairs=((3, 5),)), 5)
        self.assertEqual(recoloured(pairs=((3, 5),), colour=4), 4)

    def test_errors(self):
        for value in NOT_COLOURS:
            check_raises(self, InvalidColour, value, recoloured, value, ())
            check_raises(self, InvalidColour, value, recoloured, value, None)
            check_raises(self, InvalidColour, value, recoloured, pairs=((2, 1), (1, 2)), colour=value)
        for value in NOT_PAIRS:
            check_raises(self, InvalidPairs, value, recoloured, 1, value)
            check_raises(self, InvalidPairs, value, recoloured, colour=TOP, pairs=value)


class CombinedTest(unittest.TestCase):
    def check(self, pairs, other_pairs):
        found = combined(pairs, other_pairs)
        self.assertIs(type(found), tuple)
        self.assertEqual(list(found), sorted(found))
        self.assertEqual(len({old for old, _ in found}), len(found))
        self.assertEqual([pair for pair in found if pair[0] == pair[1]], [])
        named = {colour for table in (pairs, other_pairs) for pair in table for colour in pair} | {6, 7}
        for colour in named:
            self.assertEqual(turn(colour, found), turn(turn(colour, pairs), other_pairs))
        self.assertLessEqual({old for old, _ in found}, named)

    def test_every_two_tables(self):
        for pairs, other_pairs in itertools.product(tables_over((0, 1, TOP), 2), repeat=2):
            self.check(pairs, other_pairs)

    def test_exchanges_and_rounds(self):
        for pairs, other_pairs in itertools.product(ROUNDS, repeat=2):
            self.check(pairs, other_pairs)
        self.assertEqual(combined(((1, 2), (2, 1)), ((1, 2), (2, 1))), ())
        self.assertEqual(combined(((1, 2), (2, 3), (3, 1)), ((1, 2), (2, 3), (3, 1))), ((1, 3), (2, 1), (3, 2)))
        self.assertEqual(combined(((1, 1), (4, 4)), ((2, 2),)), ())
        self.assertEqual(combined((), ()), ())

    def test_many_pairs(self):
        source = random.Random(5)
        for _ in range(20):
            tables = [
                tuple((old, source.randrange(60)) for old in sorted(source.sample(range(50), 30))) for _ in range(2)
            ]
            self.check(*tables)

    def test_by_name(self):
        self.assertEqual(combined(pairs=((1, 2),), other_pairs=((2, 5),)), ((1, 5), (2, 5)))
        self.assertEqual(combined(other_pairs=((1, 2),), pairs=((2, 5),)), ((1, 2), (2, 5)))

    def test_errors(self):
        for value in NOT_PAIRS:
            for other in ((), ((1, 2),), None, ((2, 1), (1, 2))):
                check_raises(self, InvalidPairs, value, combined, value, other)
            check_raises(self, InvalidPairs, value, combined, (), value)
            check_raises(self, InvalidPairs, value, combined, other_pairs=value, pairs=((1, 2),))
            check_raises(self, InvalidPairs, value, combined, other_pairs=(1,), pairs=value)


class KeepsApartTest(unittest.TestCase):
    def check(self, *tables):
        colours = {colour for table in tables for pair in table for colour in pair}
        others = [colour for colour in (7, 8, 9, 10, 11, 12) if colour not in colours]
        colours = sorted(colours | set(others[:2]))
        expected = all(
            any(turn(one, table) != turn(other, table) for table in tables)
            for one, other in itertools.combinations(colours, 2)
        )
        self.assertIs(keeps_apart(*tables), expected, tables)

    def test_no_tables(self):
        self.assertIs(keeps_apart(), False)

    def test_one_table(self):
        for table in [*TABLES, *ROUNDS]:
            self.check(table)

    def test_two_tables(self):
        for tables in itertools.product(tables_over((0, 1, TOP), 2), repeat=2):
            self.check(*tables)
        for tables in itertools.product(ROUNDS, repeat=2):
            self.check(*tables)

    def test_three_tables(self):
        source = random.Random(4)
        tables = tables_over((0, 1, 2, 7), 2)
        for _ in range(3000):
            self.check(source.choice(tables), source.choice(tables), source.choice(tables))
        for three in itertools.product(ROUNDS, repeat=3):
            self.check(*three)

    def test_a_colour_that_is_only_a_new_one(self):
        self.assertIs(keeps_apart(((1, 5),)), False)
        self.assertIs(keeps_apart(((1, 5), (5, 1))), True)
        self.assertIs(keeps_apart(((1, 5), (5, 6))), False)
        self.assertIs(keeps_apart(((1, 5), (2, 5)), ((1, 9), (2, 9))), False)
        self.assertIs(keeps_apart(((1, 5), (2, 5)), ((5, 6),)), True)

    def test_errors(self):
        good, bad = ((1, 2),), ((2, 1), (1, 2))
        for value in NOT_PAIRS:
            for tables in ((value,), (good, value), (value, good), (good, (), value, bad), (value, bad), (value, value)):
                check_raises(self, InvalidPairs, value, keeps_apart, *tables)

    def test_the_interface_is_defined_here(self):
        for name in ("recoloured", "combined", "keeps_apart"):
            self.assertEqual(vars(recolouring)[name].__module__, "allscreens.recolouring")

    def test_the_example_of_the_document(self):
        run_example(self, EXAMPLE)

    def test_equal_calls_return_equal_results(self):
        pairs = ((1, 2), (2, 1))
        self.assertEqual(combined(pairs, pairs), combined(pairs, pairs))
        self.assertEqual(keeps_apart(pairs), keeps_apart(pairs))
        self.assertEqual(pairs, ((1, 2), (2, 1)))


if __name__ == "__main__":
    unittest.main()
