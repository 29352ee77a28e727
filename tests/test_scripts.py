import random
import unittest

import slow
from allscreens import scripts
from allscreens.errors import (
    DifferentStages, InvalidOrder, InvalidStage, InvalidText, TooManyCopies, TooManyKeys, TooManyOrders,
    TooManyRecolours,
)
from allscreens.scripts import Script
from helpers import (
    BOUND, NOT_COLOURS, NOT_INTEGERS, NOT_PAIRS, NOT_RECTS, NOT_STAGES, NOT_SURFACES, ODD_VALUES, STAGE, AlwaysEqual,
    check_raises, check_raises_equal, raised_by, run_example,
)

ERROR_EXAMPLE = """
>>> from allscreens.scripts import Script
>>> Script((("a", 8, 4),), (("fill", "a", (0, 0, 1, 1), 0), ("moved", 0, 0, (("fill", "b", (0, 0, 1, 1), 0),))))
raises InvalidOrder(path=(1, 0))
"""

RECT = (0, 0, 2, 1)
FILL = ("fill", "a", RECT, 5)
RECOLOUR = ("recolour", "a", RECT, ((1, 2),))
COPY = ("copy", "a", RECT, "b", 1, 2, "none", None)
KEYED = ("copy", "a", RECT, "b", 1, 2, "both", 3)

TUPLES = ((), (FILL,), (FILL, RECOLOUR))

GOOD_ORDERS = (
    FILL, RECOLOUR, COPY, KEYED,
    ("fill", "ab", (-BOUND, -BOUND, BOUND, BOUND), 0), ("fill", "b", (BOUND, BOUND, 0, 0), 10 ** 9),
    ("recolour", "b", RECT, ()), ("recolour", "b", RECT, ((0, 0), (10 ** 9, 10 ** 9))),
    ("recolour", "b", RECT, ((1, 2), (2, 1))),
    ("copy", "b", RECT, "b", BOUND, -BOUND, "across", 0), ("copy", "b", RECT, "ab", -BOUND, BOUND, "down", 10 ** 9),
    *[("within", RECT, orders) for orders in TUPLES], ("within", (-BOUND, BOUND, 0, BOUND), (FILL,)),
    *[("moved", 0, -5, orders) for orders in TUPLES], ("moved", BOUND, -BOUND, ()),
    *[("mirrored", 0, -5, orders) for orders in TUPLES], ("mirrored", None, None, ()), ("mirrored", None, BOUND, ()),
    ("mirrored", -BOUND, None, ()),
    *[("repeat", times, ()) for times in range(13)], ("repeat", 1, TUPLES[1]),
)

NOT_NUMBERS = NOT_INTEGERS + (BOUND + 1, -BOUND - 1, 10 ** 39, -10 ** 39)

NOT_TUPLES = ODD_VALUES + (0, 1, [FILL], "ab", {0: FILL}, [], {})


def without_none(values):
    return [value for value in values if value is not None]


def with_value(order, place, values):
    return [order[:place] + (value,) + order[place + 1:] for value in values]


BAD_ORDERS = [
    *ODD_VALUES, 0, 1, "fill", (), ("",), ("fill",), (FILL,), (FILL, FILL), [], list(FILL), list(COPY), {"fill": "a"},
    *with_value(FILL, 1, NOT_SURFACES), *with_value(FILL, 2, NOT_RECTS), *with_value(FILL, 3, NOT_COLOURS),
    *with_value(RECOLOUR, 1, NOT_SURFACES), *with_value(RECOLOUR, 2, NOT_RECTS), *with_value(RECOLOUR, 3, NOT_PAIRS),
    ("recolour", "a", RECT, ((1, 2), (2, 3), (3, 4))),
    *with_value(COPY, 1, NOT_SURFACES), *with_value(COPY, 2, NOT_RECTS), *with_value(COPY, 3, NOT_SURFACES),
    *with_value(COPY, 4, NOT_NUMBERS), *with_value(COPY, 5, NOT_NUMBERS),
    *with_value(COPY, 6, ODD_VALUES + ("None", "ACROSS", "left", 0, ("none",), "none ", "acrossdown")),
    *with_value(COPY, 7, without_none(NOT_COLOURS)),
    *with_value(("within", RECT, ()), 1, NOT_RECTS), *with_value(("within", RECT, ()), 2, NOT_TUPLES),
    *with_value(("moved", 1, 2, ()), 1, NOT_NUMBERS), *with_value(("moved", 1, 2, ()), 2, NOT_NUMBERS),
    *with_value(("moved", 1, 2, ()), 3, NOT_TUPLES),
    *with_value(("mirrored", 1, 2, ()), 1, without_none(NOT_NUMBERS)),
    *with_value(("mirrored", 1, 2, ()), 2, without_none(NOT_NUMBERS)), *with_value(("mirrored", 1, 2, ()), 3, NOT_TUPLES),
    *with_value(("repeat", 1, ()), 1, NOT_INTEGERS + (-1, 13, BOUND, -10 ** 39, 10 ** 39)),
    *with_value(("repeat", 1, ()), 2, NOT_TUPLES),
    ("call",), ("call", "a", ()), ("call", 1), ("call", None), ("call", ("a",)), ("call", ["a"]), ("call", AlwaysEqual()),
    ("call", ""), ("call", "A"), ("call", "nothere"), ("call", True),
]
for good in (FILL, RECOLOUR, COPY, ("within", RECT, ()), ("moved", 1, 2, ()), ("mirrored", 1, 2, ()), ("repeat", 1, ())):
    BAD_ORDERS += [good[:-1], (*good, None), (*good, ()), good[1:], (*good[:-1], None, good[-1])]
    BAD_ORDERS += with_value(good, 0, ODD_VALUES + ("Fill", "fill ", "with", "copy" if good[0] != "copy" else "fill", 0))
    BAD_ORDERS += [list(good), (list(good),), (good,)]


def nested(depth, orders):
    """Orders inside of so many others."""
    for at in range(depth):
        frame = (("within", (0, 0, 9, 9)), ("moved", 0, 0), ("mirrored", 2, None), ("repeat", 1))[at % 4]
        orders = ((*frame, orders),)
    return orders


class OrderTest(unittest.TestCase):
    def test_valid_orders(self):
        for order in GOOD_ORDERS:
            with self.subTest(order=order):
                self.assertIs(Script.is_order(STAGE, order), True)
                self.assertEqual(Script(STAGE, (order,)).orders, (order,))
                for depth in range(6):
                    if len(nested(depth, (order,))) == 1 and not (depth == 5 and order[0] in slow.FRAMES and order[-1]):
                        self.assertIs(Script.is_order(STAGE, nested(depth, (order,))[0]), True)

    def test_other_values(self):
        for value in BAD_ORDERS:
            with self.subTest(value=value):
                self.assertIs(Script.is_order(STAGE, value), False)
                self.assertIs(Script.is_order(STAGE, ("within", RECT, (FILL, value))), False)
                self.assertIs(Script.is_order(STAGE, nested(5, (value,))[0]), False)

    def test_the_stage_counts(self):
        self.assertIs(Script.is_order((("c", 1, 1),), FILL), False)
        self.assertIs(Script.is_order((("a", 1, 1),), FILL), True)
        self.assertIs(Script.is_order(STAGE[:1], COPY), False)
        self.assertIs(Script.is_order(STAGE[2:], COPY), False)

    def test_calls_are_not_taken(self):
        self.assertIs(Script.is_order(STAGE, ("call", "a")), False)
        self.assertIs(Script.is_order(STAGE, ("repeat", 0, (("call", "a"),))), False)

    def test_levels(self):
        self.assertIs(Script.is_order(STAGE, nested(5, (FILL,))[0]), True)
        self.assertIs(Script.is_order(STAGE, nested(6, ())[0]), True)
        self.assertIs(Script.is_order(STAGE, nested(6, (FILL,))[0]), False)
        self.assertIs(Script.is_order(STAGE, nested(7, ())[0]), False)

    def test_limits_of_scripts_do_not_count(self):
        self.assertIs(Script.is_order(STAGE, ("repeat", 12, (("repeat", 12, (KEYED,)),))), True)

    def test_by_name_and_off_an_object(self):
        self.assertIs(Script.is_order(stage=STAGE, value=FILL), True)
        self.assertIs(Script.is_order(value=None, stage=STAGE), False)
        self.assertIs(Script(STAGE).is_order(STAGE[1:2], FILL), False)

    def test_errors(self):
        for value in NOT_STAGES:
            check_raises(self, InvalidStage, value, Script.is_order, value, FILL)
            check_raises(self, InvalidStage, value, Script.is_order, stage=value, value=None)


class PathTest(unittest.TestCase):
    def check_path(self, path, orders, parts=()):
        check_raises_equal(self, InvalidOrder, path, Script, STAGE, orders, parts=parts)
        check_raises_equal(self, InvalidOrder, path, Script, parts=parts, orders=orders, stage=STAGE)

    def test_in_the_script(self):
        for value in BAD_ORDERS:
            check_raises_equal(self, InvalidOrder, (0,), Script, STAGE, (value,))
            check_raises_equal(self, InvalidOrder, (2,), Script, STAGE, (FILL, COPY, value, FILL, value))
            check_raises_equal(self, InvalidOrder, (1, 1), Script, STAGE, (FILL, ("repeat", 0, (FILL, value)), value))

    def test_in_parts(self):
        for value in BAD_ORDERS:
            parts = (("aa", (FILL,)), ("b", (COPY, value, FILL)), ("c", (None,)))
            check_raises_equal(self, InvalidOrder, ("b", 1), Script, STAGE, (None,), parts=parts)
            parts = (("aa", (FILL, ("moved", 0, 0, (FILL, FILL, value)))), ("c", (None,)))
            check_raises_equal(self, InvalidOrder, ("aa", 1, 2), Script, STAGE, (), parts=parts)

    def test_at_each_level(self):
        for depth in range(7):
            path = (1,) + (0,) * depth
            self.check_path(path, (FILL, *nested(depth, (None,))))
            self.check_path(("b", *path), (), (("a", ()), ("b", (FILL, *nested(depth, (None,))))))

    def test_on_the_seventh_level(self):
        for order in (FILL, None, ("repeat", 0, ()), ("call", "a"), ("within", RECT, (FILL,))):
            self.check_path((0,) * 7, nested(6, (order,)), (("a", ()),))
            self.check_path((0,) * 6 + (0,), nested(6, (order, order)), (("a", ()),))
            self.check_path(("b",) + (0,) * 7, (), (("a", ()), ("b", nested(6, (order,)))))
        self.assertEqual(len(Script(STAGE, nested(6, ()))), 0)
        self.assertEqual(len(Script(STAGE, nested(5, (FILL,)))), 1)
        deep = ("moved", 0, 0, (FILL, nested(5, (FILL,))[0]))
        self.check_path((0, 1, 0, 0, 0, 0, 0), (deep,))

    def test_a_call_adds_no_level(self):
        parts = (("a", nested(5, (FILL,))), ("b", nested(5, (("call", "a"),))))
        self.assertEqual(len(Script(STAGE, nested(5, (("call", "b"),)), parts=parts)), 1)

    def test_an_order_is_checked_before_those_inside(self):
        self.check_path((0,), (("moved", 0, None, (None,)), None))
        self.check_path((0,), (("repeat", 13, (None,)),))
        self.check_path((0, 1), (("repeat", 1, (FILL, ("within", None, (None,)))),))
        self.check_path((0, 1, 0), (("repeat", 1, (FILL, ("within", RECT, (None,)))), None))
        self.check_path((0, 0), (("within", RECT, [FILL][:1] and (None, None)), None))

    def test_the_tuples_themselves(self):
        for value in NOT_TUPLES:
            self.check_path((), value)
            self.check_path((), (), value)
            self.check_path((), (None,), value)
            self.check_path((), value, (("a", (None,)),))
        pair = ("a", (FILL,))
        wrong = [(value,) for value in ODD_VALUES] + [((value, ()),) for value in ODD_VALUES] + [
            (("a", value),) for value in NOT_TUPLES] + [
            pair, (pair, pair), (("b", ()), ("a", ())), (("a", ()), ("c", ()), ("b", ())), (("a",),), (("a", (), ()),),
            (["a", ()],), [pair], (("A", ()),), (("abcdefghi", ()),), (("", ()),), (("a b", ()),), (("a1", ()),), (((), "a"),),
            (pair, None), (pair, ("b", None)), tuple((name, ()) for name in "abcdefghi"), ("ab",),
            tuple((name, (None,)) for name in "abcdefghi"),
        ]
        for parts in wrong:
            self.check_path((), (None,), parts)
            self.check_path((), None, parts)
            self.check_path((), (), parts)
        self.assertEqual(len(Script(STAGE, parts=tuple((name, ()) for name in "abcdefgh")).parts), 8)

    def test_calls(self):
        parts = (("a", ()), ("b", (("call", "a"),)), ("c", (("repeat", 1, (("call", "b"), ("call", "a"))),)))
        for name in "abc":
            self.assertEqual(len(Script(STAGE, (("call", name),), parts=parts)), 0)
        self.check_path((1,), (("call", "a"), ("call", "d")), parts)
        self.check_path(("a", 0), (), (("a", (("call", "a"),)),))
        self.check_path(("a", 0), (), (("a", (("call", "b"),)), ("b", ())))
        self.check_path(("b", 0, 1), (), (("a", ()), ("b", (("moved", 0, 0, (FILL, ("call", "b"))),))))
        self.check_path((0,), (("call", "a"),))

    def test_orders_of_parts_come_first(self):
        self.check_path(("b", 0), (None,), (("a", ()), ("b", (None,)), ("c", (None,))))
        self.check_path(("c", 1), (None,), (("a", ()), ("b", (FILL,)), ("c", (FILL, None))))
        self.check_path((0,), (None,), (("a", ()), ("b", (FILL,)), ("c", (FILL,))))

    def test_orders_come_before_the_limits(self):
        self.check_path((17,), (FILL,) * 17 + (None,))
        self.check_path(("a", 1), (FILL,) * 17, (("a", (FILL, None)),))

    def test_the_stage_comes_first(self):
        for value in NOT_STAGES:
            check_raises(self, InvalidStage, value, Script, value)
            check_raises(self, InvalidStage, value, Script, value, None, parts=None)
            check_raises(self, InvalidStage, value, Script, stage=value, orders=(FILL,) * 99)

    def test_the_example_of_the_document(self):
        run_example(self, ERROR_EXAMPLE)


class LimitsTest(unittest.TestCase):
    def check_found(self, error, found, orders, parts=()):
        check_raises_equal(self, error, found, Script, STAGE, orders, parts=parts)

    def check_limit(self, error, order, most):
        """Check that so many orders are taken, but not one more, written in several ways."""
        for many, taken in ((most, True), (most + 1, False)):
            wholes, rest = divmod(many, 3)
            ways = (
                ((order,) * many, ()),
                ((("repeat", 3, (order,)),) * wholes + (order,) * rest, ()),
                ((("repeat", wholes, (order, order, order)), *(order,) * rest), ()),
                ((("call", "b"),) + (("moved", 1, 0, (order,)),) * (many - 2), (("a", (order,)), ("b", (("call", "a"), order)))),
                ((("within", (0, 0, 0, 0), (order,)),) * many, (("a", (order,) * 99),)),
            )
            for orders, parts in ways:
                if taken:
                    self.assertIsInstance(Script(STAGE, orders, parts=parts), Script)
                else:
                    self.check_found(error, many, orders, parts)

    def test_orders(self):
        self.check_limit(TooManyOrders, FILL, 16)
        self.check_limit(TooManyOrders, ("fill", "a", (9, 9, 1, 1), 5), 16)
        self.check_limit(TooManyOrders, ("fill", "a", (0, 0, 0, 0), 5), 16)

    def test_copies(self):
        self.check_limit(TooManyCopies, COPY, 4)
        self.check_limit(TooManyCopies, ("copy", "a", (9, 9, 1, 1), "a", 0, 0, "none", None), 4)
        self.check_found(TooManyCopies, 5, (KEYED, COPY, COPY, KEYED, COPY))
        Script(STAGE, (KEYED, COPY, COPY, KEYED))

    def test_keys(self):
        self.check_limit(TooManyKeys, KEYED, 2)
        self.check_limit(TooManyKeys, ("copy", "a", (9, 9, 1, 1), "a", 0, 0, "none", 0), 2)

    def test_recolours(self):
        self.check_limit(TooManyRecolours, RECOLOUR, 4)
        self.check_limit(TooManyRecolours, ("recolour", "a", (9, 9, 1, 1), ()), 4)

    def test_all_at_their_limits(self):
        script = Script(STAGE, (RECOLOUR,) * 4 + (KEYED,) * 2 + (COPY,) * 2 + (FILL,) * 8)
        self.assertEqual(len(script), 16)

    def test_which_error_comes_first(self):
        self.check_found(TooManyOrders, 17, (KEYED,) * 17)
        self.check_found(TooManyOrders, 22, (KEYED,) * 5 + (RECOLOUR,) * 17)
        self.check_found(TooManyCopies, 5, (RECOLOUR,) * 5 + (KEYED,) * 5)
        self.check_found(TooManyKeys, 3, (RECOLOUR,) * 5 + (KEYED,) * 3)
        self.check_found(TooManyRecolours, 5, (RECOLOUR,) * 5 + (KEYED,) * 2)

    def test_numbers_of_many_digits(self):
        orders = (FILL,)
        for _ in range(6):
            orders = (("repeat", 12, orders),)
        self.check_found(TooManyOrders, 12 ** 5, orders[0][2])
        parts = [("a", (FILL, FILL))]
        for name in "bcdefgh":
            calls = (("call", parts[-1][0]),) * 7
            for _ in range(5):
                calls = (("repeat", 12, calls),)
            parts.append((name, calls))
        parts = tuple(parts)
        self.check_found(TooManyOrders, 12 * 2 * (7 * 12 ** 5) ** 7 + 1, (FILL, ("repeat", 12, (("call", "h"),))), parts)
        self.assertEqual(len(Script(STAGE, (FILL, ("repeat", 0, (("call", "h"),))), parts=parts)), 1)
        self.assertEqual(len(Script(STAGE, (("call", "a"),), parts=parts)), 2)

    def test_repeats_and_calls_of_nothing(self):
        nothing = ()
        for _ in range(6):
            nothing = (("repeat", 12, nothing),)
        self.assertEqual(len(Script(STAGE, nothing)), 0)
        parts = [("a", nothing)]
        for name in "bcdefgh":
            calls = (("call", parts[-1][0]),) * 12
            for _ in range(5):
                calls = (("repeat", 12, calls),)
            parts.append((name, calls))
        orders = (("repeat", 12, (("call", "h"),)),) * 20 + (FILL,) * 16
        self.assertEqual(Script(STAGE, orders, parts=tuple(parts)).strokes, (FILL,) * 16)
        self.check_found(TooManyOrders, 17, (*orders, FILL), tuple(parts))

    def test_parts_that_are_not_called_do_not_count(self):
        parts = (("a", (KEYED,) * 99), ("b", (("repeat", 12, (("call", "a"),)),)))
        self.assertEqual(len(Script(STAGE, (FILL,), parts=parts)), 1)
        self.check_found(TooManyOrders, 99 * 12, (("call", "b"),), parts)


class SumTest(unittest.TestCase):
    def test_sums(self):
        source = random.Random(1)
        stage = (("a", 4, 3), ("b", 3, 5))
        for _ in range(60):
            parts = (("p", (slow.some_order(source, stage, ("fill", "recolour")),)),)
            one = Script(stage, (*slow.some_orders(source, stage, 1, 3), ("call", "p")), parts=parts)
            other = Script(stage, slow.some_orders(source, stage, 2, 3, ("fill", "copy"), (None,)))
            if not slow.in_limits(stage, one.strokes + other.strokes):
                continue
            both = one + other
            self.assertIs(type(both), Script)
            self.assertEqual((both.stage, both.orders, both.parts), (stage, one.strokes + other.strokes, ()))
            self.assertEqual(both.strokes, one.strokes + other.strokes)
            self.assertEqual((one.parts, other.parts), (parts, ()))

    def test_orders_that_write_nothing_are_left_out(self):
        nothing = Script(STAGE, (("fill", "a", (9, 9, 1, 1), 0),) * 16)
        self.assertEqual((nothing + nothing).orders, ())
        self.assertEqual((nothing + Script(STAGE, (FILL,) * 16)).orders, (FILL,) * 16)

    def test_different_stages(self):
        for stage in (STAGE[:2], (("a", 3, 6),) + STAGE[1:]):
            found = raised_by(self, DifferentStages, lambda: Script(STAGE) + Script(stage))
            self.assertEqual(vars(found), {})
            raised_by(self, DifferentStages, lambda: Script(STAGE, (FILL,) * 9) + Script(stage, (FILL,) * 9))

    def test_limits(self):
        def total(first, second):
            return Script(STAGE, first) + Script(STAGE, second)
        check_raises_equal(self, TooManyOrders, 17, total, (FILL,) * 9, (FILL,) * 8)
        check_raises_equal(self, TooManyCopies, 6, total, (COPY,) * 4, (KEYED,) * 2)
        check_raises_equal(self, TooManyKeys, 3, total, (KEYED,) * 2 + (RECOLOUR,) * 4, (KEYED,) + (RECOLOUR,))
        check_raises_equal(self, TooManyRecolours, 5, total, (RECOLOUR,) * 4, (KEYED, RECOLOUR))
        self.assertEqual(len(total((FILL,) * 8, (FILL,) * 8)), 16)


class ScriptTest(unittest.TestCase):
    def test_properties(self):
        parts = (("a", (FILL,)), ("b", (("call", "a"), COPY)))
        orders = (("repeat", 2, (("call", "b"),)), ("fill", "a", (9, 9, 1, 1), 0))
        script = Script(STAGE, orders, parts=parts)
        self.assertEqual((script.stage, script.orders, script.parts), (STAGE, orders, parts))
        self.assertEqual(script.strokes, (FILL, COPY, FILL, COPY))
        self.assertEqual((len(script), bool(script), repr(script)), (4, True, "Script(4 strokes)"))

    def test_without_orders(self):
        for script in (Script(STAGE), Script(STAGE, ()), Script(STAGE, parts=()), Script(STAGE, orders=(), parts=())):
            self.assertEqual((script.orders, script.parts, script.strokes), ((), (), ()))
            self.assertEqual((len(script), bool(script), repr(script), str(script)), (0, False, "Script(0 strokes)", ""))
        self.assertIs(bool(Script(STAGE, (("fill", "a", (9, 9, 1, 1), 0),))), False)
        self.assertEqual(repr(Script(STAGE, (FILL,))), "Script(1 strokes)")

    def test_parts_are_passed_by_name_only(self):
        with self.assertRaises(TypeError):
            Script(STAGE, (), ())

    def test_equality(self):
        parts = (("a", (FILL,)),)
        script = Script(STAGE, (("call", "a"),), parts=parts)
        self.assertIs(script == Script(STAGE, (("call", "a"),), parts=parts), True)
        self.assertIs(script != Script(STAGE, (("call", "a"),), parts=parts), False)
        others = (
            Script(STAGE, (FILL,)), Script(STAGE, (FILL,), parts=parts), Script(STAGE), Script(STAGE, parts=parts),
            Script((("a", 3, 6),) + STAGE[1:], (("call", "a"),), parts=parts),
            Script(STAGE[:1], (("call", "a"),), parts=parts),
            Script(STAGE, (("call", "a"),), parts=(("a", (COPY,)),)),
            Script(STAGE, (("call", "a"), FILL), parts=parts), script + Script(STAGE),
        )
        for other in others:
            self.assertIs(script == other, False)
            self.assertIs(script != other, True)
            self.assertIs(other == script, False)
        for value in ODD_VALUES + (0, STAGE, str(script), (STAGE, script.orders), Script):
            self.assertIs(script == value, False)
            self.assertIs(script != value, True)

    def test_the_class_has_all_that_the_document_lists(self):
        for name in ("__init__", "read", "is_order", "stage", "orders", "parts", "strokes", "__add__", "__str__",
                     "__len__", "__repr__", "__eq__"):
            self.assertIn(name, vars(Script))
        self.assertIsInstance(vars(Script)["read"], classmethod)
        self.assertIsInstance(vars(Script)["is_order"], staticmethod)
        for name in ("stage", "orders", "parts", "strokes"):
            self.assertIsInstance(vars(Script)[name], property)
        self.assertEqual(scripts.Script.__module__, "allscreens.scripts")

    def test_arguments_stay_as_they_were_and_equal_calls_return_equal_results(self):
        orders = (("repeat", 2, (("call", "b"), COPY)),)
        parts = (("b", (FILL, ("moved", 1, 0, (FILL,)))),)
        one, other = Script(STAGE, orders, parts=parts), Script(STAGE, orders, parts=parts)
        self.assertEqual((one, one.strokes, str(one), one + Script(STAGE)), (other, other.strokes, str(other), other + Script(STAGE)))
        self.assertEqual(orders, (("repeat", 2, (("call", "b"), COPY)),))
        self.assertEqual(parts, (("b", (FILL, ("moved", 1, 0, (FILL,)))),))
        self.assertEqual((one.orders, one.parts), (orders, parts))


class ReadErrorsTest(unittest.TestCase):
    """The order of the errors; test_texts.py has the text itself."""

    def test_the_stage_comes_first(self):
        for value in NOT_STAGES:
            check_raises(self, InvalidStage, value, Script.read, value, "")
            check_raises(self, InvalidStage, value, Script.read, value, None)
            check_raises(self, InvalidStage, value, Script.read, stage=value, text="nonsense")

    def test_the_text_comes_before_the_script(self):
        check_raises_equal(self, InvalidText, 1, Script.read, STAGE, "fill c 0 0 1 1 5\nfill")
        check_raises_equal(self, InvalidOrder, (0,), Script.read, STAGE, "fill c 0 0 1 1 5\nfill a 0 0 1 1 5")
        check_raises_equal(self, InvalidText, 17, Script.read, STAGE, "fill a 0 0 1 1 5\n" * 17)
        check_raises_equal(self, TooManyOrders, 17, Script.read, STAGE, ("fill a 0 0 1 1 5\n" * 17)[:-1])


if __name__ == "__main__":
    unittest.main()
