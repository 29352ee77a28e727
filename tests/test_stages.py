import unittest

from allscreens.errors import InvalidStage, InvalidSurface
from allscreens.stages import check_stage, check_surface, is_name, is_stage, size_of
from helpers import BOUND, NOT_STAGES, ODD_VALUES

STAGE = (("a", 3, 5), ("ab", BOUND, 1), ("b", 1, BOUND))

STAGES = (
    STAGE,
    (("a", 1, 1),),
    (("abcdefgh", 1, 1),),
    (("zzzzzzzz", BOUND, BOUND),),
    (("a", 1, 1), ("aa", 1, 1), ("ab", 1, 1), ("az", 1, 1), ("b", 1, 1), ("za", 1, 1)),
)


class StagesTest(unittest.TestCase):
    def test_names(self):
        for value in ("a", "z", "az", "hello", "abcdefgh"):
            self.assertIs(is_name(value), True)
        for value in ODD_VALUES + ("abcdefghi", "A", "a1", "a_", "a b", " a", "a\n", "`", "{", "1", ("a",), ["a"]):
            with self.subTest(value=value):
                self.assertIs(is_name(value), False)

    def test_stages(self):
        for value in STAGES:
            with self.subTest(value=value):
                self.assertIs(is_stage(value), True)
                self.assertIsNone(check_stage(value))

    def test_other_values(self):
        for value in NOT_STAGES:
            with self.subTest(value=value):
                self.assertIs(is_stage(value), False)
                with self.assertRaises(InvalidStage) as caught:
                    check_stage(value)
                self.assertIs(caught.exception.value, value)

    def test_surfaces_of_a_stage(self):
        self.assertEqual([size_of(STAGE, name) for name in ("a", "ab", "b")], [(3, 5), (BOUND, 1), (1, BOUND)])
        for name in ("a", "ab", "b"):
            self.assertIsNone(check_surface(STAGE, name))

    def test_other_surfaces(self):
        for value in ODD_VALUES + ("c", "aa", "abc", "B", 0, ("a",), ["a"], ("a", 3, 5)):
            with self.subTest(value=value):
                with self.assertRaises(InvalidSurface) as caught:
                    check_surface(STAGE, value)
                self.assertIs(caught.exception.value, value)


if __name__ == "__main__":
    unittest.main()
