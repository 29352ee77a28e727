import unittest

from allscreens import limits

EXPECTED = {
    "MOST_SURFACES": 6,
    "MOST_SIZE": 1000000000000,
    "MOST_COLOUR": 1000000000,
    "MOST_ORDERS": 16,
    "MOST_COPIES": 4,
    "MOST_KEYS": 2,
    "MOST_RECOLOURS": 4,
    "MOST_PAIRS": 2,
    "MOST_REPEAT": 12,
    "MOST_LEVELS": 6,
    "MOST_PARTS": 8,
    "MOST_EDITS": 100,
}


class LimitsTest(unittest.TestCase):
    def test_each_number(self):
        for name, number in EXPECTED.items():
            with self.subTest(name=name):
                self.assertEqual(getattr(limits, name), number)
                self.assertIs(type(getattr(limits, name)), int)

    def test_there_are_no_others(self):
        found = [name for name in vars(limits) if name.startswith("MOST_")]
        self.assertEqual(sorted(found), sorted(EXPECTED))


if __name__ == "__main__":
    unittest.main()
