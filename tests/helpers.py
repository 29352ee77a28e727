"""What several tests use."""

import contextlib
import doctest
import io

from allscreens.regions import Region

BOUND = 10 ** 12


def run_example(test, text):
    """Run an example of the document, written as there, and fail the test if it shows or raises something else."""
    names = {}
    examples = doctest.DocTestParser().get_examples(text)
    test.assertGreater(len(examples), 0)
    for example in examples:
        shown = io.StringIO()
        with contextlib.redirect_stdout(shown):
            try:
                exec(compile(example.source, "<example>", "single"), names)
            except Exception as error:
                attributes = ", ".join(f"{name}={value!r}" for name, value in vars(error).items())
                print(f"raises {type(error).__name__}({attributes})")
        test.assertEqual(shown.getvalue(), example.want)


def raised_by(test, error, call, /, *arguments, **named):
    """Check that a call raises just this error, and return it."""
    with test.subTest(error=error, arguments=arguments, named=named):
        with test.assertRaises(error) as caught:
            call(*arguments, **named)
        test.assertIs(type(caught.exception), error)
        return caught.exception


def check_raises(test, error, value, call, /, *arguments, **named):
    """Check that a call raises just this error, whose one attribute is this very value."""
    found = raised_by(test, error, call, *arguments, **named)
    with test.subTest(error=error, arguments=arguments, named=named):
        test.assertEqual(len(vars(found)), 1)
        test.assertIs(list(vars(found).values())[0], value)


def check_raises_equal(test, error, value, call, /, *arguments, **named):
    """Check that a call raises just this error, whose one attribute is equal to a value, and of the same kind."""
    found = raised_by(test, error, call, *arguments, **named)
    with test.subTest(error=error, arguments=arguments, named=named):
        kept = list(vars(found).values())
        test.assertEqual((kept, [type(each) for each in kept]), ([value], [type(value)]))


class AlwaysEqual:
    """Says that it is equal to everything; the program must not ask it."""

    def __eq__(self, other):
        return True

    def __ne__(self, other):
        return False


# Values of many kinds, none of which is a tuple, an integer or a name.
ODD_VALUES = (
    None, True, False, "", "A name", b"a", [], {}, set(), {"a": 1}, object(), AlwaysEqual(), int, len, ValueError("x"),
)

NOT_RECTS = ODD_VALUES + (
    0, 1, (), (0,), (0, 0, 0), (0, 0, 0, 0, 0), (1, 1, 1, 1, 1), [0, 0, 1, 1], [], "0011", "1111",
    {0: 0, 1: 0, 2: 1, 3: 1}, {1, 2, 3, 4}, b"abcd",
    (BOUND + 1, 0, 1, 1), (0, BOUND + 1, 1, 1), (0, 0, BOUND + 1, 1), (0, 0, 1, BOUND + 1),
    (-BOUND - 1, 0, 1, 1), (0, -BOUND - 1, 1, 1), (0, 0, -1, 1), (0, 0, 1, -1), (0, 0, -BOUND, 1), (0, 0, 1, -BOUND),
    (10 ** 39, 0, 1, 1), (0, 0, 1, 10 ** 39),
    ((0, 0, 1, 1),), ((0, 0, 1, 1), (0, 0, 1, 1), (0, 0, 1, 1), (0, 0, 1, 1)), ((0, 0), (1, 1)),
) + tuple(
    (0, 0, 1, 1)[:place] + (odd,) + (0, 0, 1, 1)[place + 1:]
    for place in range(4)
    for odd in (True, False, None, "1", b"1", (1,), [1], (), {}, AssertionError)
)

NOT_INTEGERS = ODD_VALUES + ("0", "1", b"1", (), (0,), [1], {0: 0}, {1}, (1, 1))

NOT_COLOURS = NOT_INTEGERS + (-1, -10 ** 39, 10 ** 9 + 1, 10 ** 39)

# A stage, and what is no name of a surface of it, and no cell of it.
STAGE = (("a", 3, 5), ("ab", BOUND, 1), ("b", BOUND, BOUND))

NOT_SURFACES = ODD_VALUES + ("c", "aa", "B", 0, 1, ("a",), ["a"], ("a", 3, 5), b"ab")

NOT_CELLS = NOT_SURFACES + (
    "a", "abc", (), ("a", 0), ("a", 0, 0, 0), ["a", 0, 0], {"a": 0, "b": 0, "c": 0},
    (("a", 0, 0),), (0, "a", 0), (0, 0, "a"), (0, 0, 0), ("c", 0, 0), ("", 0, 0), (None, 0, 0), (("a",), 0, 0),
    (["a"], 0, 0), (AlwaysEqual(), 0, 0),
    ("a", -1, 0), ("a", 0, -1), ("a", 3, 0), ("a", 0, 5), ("a", 10 ** 39, 0), ("a", 0, -10 ** 39),
    ("ab", BOUND, 0), ("ab", 0, 1), ("b", BOUND, 0), ("b", 0, BOUND),
    ("a", True, 0), ("a", 0, True), ("a", False, 0), ("a", 0, False), ("a", None, 0), ("a", 0, None), ("a", "0", 0),
    ("a", 0, "0"), ("a", (0,), 0), ("a", 0, [0]), ("a", AlwaysEqual(), 0),
)

NOT_PAIRS = ODD_VALUES + (
    0, 1, [(1, 2)], [[1, 2]], "12", ((),), ((1,),), ((1, 2, 3),), (1, 2), (1,), ([1, 2],), ("12",), (None,),
    ({1: 2},), ({1, 2},), {1: 2}, {(1, 2)},
    ((1, True),), ((True, 1),), ((False, 1),), ((1, None),), ((None, 1),), (("1", 2),), ((1, "2"),), (((1,), 2),),
    ((-1, 2),), ((1, -1),), ((10 ** 9 + 1, 0),), ((0, 10 ** 9 + 1),), ((10 ** 39, 0),),
    ((2, 1), (1, 2)), ((1, 2), (1, 2)), ((1, 2), (1, 3)), ((1, 2), (3, 4), (2, 5)), ((1, 2), (2, 3), None),
    ((1, 2), [3, 4]), ((1, 2), (3, 4), (3, 5)),
)

NOT_STAGES = ODD_VALUES + (
    0, 1, "a", (), ((),), (None,), ("a", 1, 1), (["a", 1, 1],), [("a", 1, 1)], ("a11",),
    (("a", 1),), (("a", 1, 1, 1),), ((1, 1, "a"),), ((("a",), 1, 1),),
    (("", 1, 1),), (("abcdefghi", 1, 1),), (("A", 1, 1),), (("a1", 1, 1),), (("a b", 1, 1),), (("a\n", 1, 1),),
    (("`", 1, 1),), (("{", 1, 1),), ((b"a", 1, 1),), ((None, 1, 1),), ((1, 1, 1),), ((["a"], 1, 1),),
    (("a", 0, 1),), (("a", 1, 0),), (("a", -1, 1),), (("a", 1, -1),),
    (("a", BOUND + 1, 1),), (("a", 1, BOUND + 1),), (("a", True, 1),), (("a", 1, True),), (("a", "1", 1),),
    (("a", None, 1),), (("a", 1, (1,)),),
    (("a", 1, 1), ("a", 1, 1)), (("a", 1, 1), ("a", 2, 2)), (("b", 1, 1), ("a", 1, 1)), (("ab", 1, 1), ("a", 1, 1)),
    (("a", 1, 1), ("c", 1, 1), ("b", 1, 1)), (("a", 1, 1), None), (("a", 1, 1), ("b", 1, 0)),
    tuple((name, 1, 1) for name in "abcdefg"),
)


def points_of(rect):
    x, y, width, height = rect
    return {(x + i, y + j) for i in range(width) for j in range(height)}


def region_of_points(points):
    return Region(*[(x, y, 1, 1) for x, y in points])
