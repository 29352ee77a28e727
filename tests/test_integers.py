import unittest

from allscreens.integers import is_between, is_int, is_number
from helpers import BOUND, ODD_VALUES


class IntegersTest(unittest.TestCase):
    def test_integers(self):
        for value in (0, 1, -1, BOUND, 10 ** 40):
            self.assertIs(is_int(value), True)

    def test_other_values(self):
        for value in ODD_VALUES + ("1", (1,), [1]):
            with self.subTest(value=value):
                self.assertIs(is_int(value), False)
                self.assertIs(is_number(value), False)
                self.assertIs(is_between(value, 0, 1), False)

    def test_between(self):
        found = [is_between(value, 2, 4) for value in range(1, 6)]
        self.assertEqual(found, [False, True, True, True, False])

    def test_numbers(self):
        for value in (-BOUND, -BOUND + 1, -1, 0, 1, BOUND - 1, BOUND):
            self.assertIs(is_number(value), True)
        for value in (-BOUND - 1, BOUND + 1, 10 ** 39, -10 ** 39):
            self.assertIs(is_number(value), False)


if __name__ == "__main__":
    unittest.main()
