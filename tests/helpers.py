"""What several tests use."""

import doctest

BOUND = 10 ** 12


def run_example(test, text):
    """Run an example of the document, written as there, and fail the test if it shows something else."""
    example = doctest.DocTestParser().get_doctest(text, {}, test.id(), None, 0)
    report = []
    results = doctest.DocTestRunner(verbose=False).run(example, out=report.append)
    test.assertGreater(results.attempted, 0)
    test.assertEqual(results.failed, 0, "".join(report))


class AlwaysEqual:
    """Says that it is equal to everything; the program must not ask it."""

    def __eq__(self, other):
        return True

    def __ne__(self, other):
        return False


# Values of many kinds, none of which is a tuple, an integer or a name.
ODD_VALUES = (
    None, True, False, "", "A name", b"a", [], {}, set(), {"a": 1}, object(), AlwaysEqual(), int, len, ValueError("x"),
)

NOT_RECTS = ODD_VALUES + (
    0, 1, (), (0,), (0, 0, 0), (0, 0, 0, 0, 0), (1, 1, 1, 1, 1), [0, 0, 1, 1], [], "0011", "1111",
    {0: 0, 1: 0, 2: 1, 3: 1}, {1, 2, 3, 4}, b"abcd",
    (BOUND + 1, 0, 1, 1), (0, BOUND + 1, 1, 1), (0, 0, BOUND + 1, 1), (0, 0, 1, BOUND + 1),
    (-BOUND - 1, 0, 1, 1), (0, -BOUND - 1, 1, 1), (0, 0, -1, 1), (0, 0, 1, -1), (0, 0, -BOUND, 1), (0, 0, 1, -BOUND),
    (10 ** 39, 0, 1, 1), (0, 0, 1, 10 ** 39),
    ((0, 0, 1, 1),), ((0, 0, 1, 1), (0, 0, 1, 1), (0, 0, 1, 1), (0, 0, 1, 1)), ((0, 0), (1, 1)),
) + tuple(
    (0, 0, 1, 1)[:place] + (odd,) + (0, 0, 1, 1)[place + 1:]
    for place in range(4)
    for odd in (True, False, None, "1", b"1", (1,), [1], (), {}, AssertionError)
)

NOT_STAGES = ODD_VALUES + (
    0, 1, "a", (), ((),), (None,), ("a", 1, 1), (["a", 1, 1],), [("a", 1, 1)], ("a11",),
    (("a", 1),), (("a", 1, 1, 1),), ((1, 1, "a"),), ((("a",), 1, 1),),
    (("", 1, 1),), (("abcdefghi", 1, 1),), (("A", 1, 1),), (("a1", 1, 1),), (("a b", 1, 1),), (("a\n", 1, 1),),
    (("`", 1, 1),), (("{", 1, 1),), ((b"a", 1, 1),), ((None, 1, 1),), ((1, 1, 1),), ((["a"], 1, 1),),
    (("a", 0, 1),), (("a", 1, 0),), (("a", -1, 1),), (("a", 1, -1),),
    (("a", BOUND + 1, 1),), (("a", 1, BOUND + 1),), (("a", True, 1),), (("a", 1, True),), (("a", "1", 1),),
    (("a", None, 1),), (("a", 1, (1,)),),
    (("a", 1, 1), ("a", 1, 1)), (("a", 1, 1), ("a", 2, 2)), (("b", 1, 1), ("a", 1, 1)), (("ab", 1, 1), ("a", 1, 1)),
    (("a", 1, 1), ("c", 1, 1), ("b", 1, 1)), (("a", 1, 1), None), (("a", 1, 1), ("b", 1, 0)),
    tuple((name, 1, 1) for name in "abcdefg"),
)


def points_of(rect):
    x, y, width, height = rect
    return {(x + i, y + j) for i in range(width) for j in range(height)}
