import itertools
import random
import unittest

import slow
from allscreens import board as board_module
from allscreens.board import Board, GuardedBoard, NotedBoard, NotedGuardedBoard
from allscreens.errors import (
    Busy, DifferentStages, Guarded, InvalidEdit, InvalidNumber, InvalidOrder, NotAPicture, NothingToUndo, TooManyCopies,
    TooManyEdits, TooManyKeys, TooManyOrders, TooManyRecolours,
)
from allscreens.painting import paint
from allscreens.pictures import Picture
from allscreens.regions import Region
from allscreens.scripts import Script
from helpers import (
    BOUND, NOT_INTEGERS, ODD_VALUES, check_raises, check_raises_equal, raised_by, region_of_points, run_example,
)
from slow_ends import Ends, points_on

EXAMPLE = """
>>> from allscreens.board import Board
>>> from allscreens.pictures import Picture
>>> stage = (("a", 5, 1),)
>>> board = Board(Picture(stage, ("a", (0, 0, 1, 1), 7)))
>>> changes = [board.insert_order(0, ("copy", "a", (0, 0, 5, 1), "a", 0, 0, "across", None)), board.insert_order(1, ("fill", "a", (0, 0, 1, 1), 9)), board.move_order(0, 1)]
>>> [changes[0][0][0], changes[0][0][1].rects, changes[1][0][1].rects, changes[2][0][1].rects, board.shown["a", 4, 0], len(board.log)]
['a', ((0, 0, 2, 1), (3, 0, 2, 1)), ((0, 0, 1, 1),), ((0, 0, 1, 1), (4, 0, 1, 1)), 9, 3]
"""

TINY = (("a", 3, 1), ("b", 1, 2))
CLASSES = (Board, NotedBoard, GuardedBoard, NotedGuardedBoard)

FILL = ("fill", "a", (0, 0, 1, 1), 1)
DOT = ("fill", "b", (0, 0, 1, 1), 1)
COPY = ("copy", "a", (0, 0, 2, 1), "a", 1, 0, "none", None)
KEYED = COPY[:7] + (0,)
TURN = ("recolour", "a", (0, 0, 3, 1), ((0, 1),))


def behind(orders, edit):
    """The orders behind an edit."""
    orders = list(orders)
    word, index = edit[:2]
    if word == "insert":
        orders.insert(index, edit[2])
    elif word == "remove":
        del orders[index]
    elif word == "replace":
        orders[index] = edit[2]
    else:
        order = orders.pop(index)
        orders.insert(edit[2], order)
    return tuple(orders)


def some_edit(source, stage, many):
    """An edit that fits a list with so many orders."""
    word = source.choice(("insert", "remove", "replace", "move")) if many else "insert"
    if word == "insert":
        return (word, source.randint(0, many), few(source, stage))
    index = source.randrange(many)
    if word == "remove":
        return (word, index)
    return (word, index, few(source, stage) if word == "replace" else source.randrange(many))


def few(source, stage):
    """An order that names no colours but 0 and 1, perhaps in a frame."""
    order = slow.tight_order(source, stage)
    return slow.framed(source, (order,)) if source.randrange(3) == 0 else order


def by_method(board, edit):
    """Make an edit by its own method."""
    methods = {
        "insert": board.insert_order, "remove": board.remove_order, "replace": board.replace_order,
        "move": board.move_order,
    }
    return methods[edit[0]](*edit[1:])


def told(board):
    """All that a board tells."""
    found = [
        board.stage, board.orders, board.script, board.shown, board.log, board.busy, board.base, len(board),
        repr(board), bool(board),
    ]
    if isinstance(board, NotedBoard):
        found.append(board.notes())
    if isinstance(board, GuardedBoard):
        found.append(board.guards)
    return found


class Colours:
    """The ends of all bases for some orders, kept as the same orders come again and again."""

    kept = {}

    @classmethod
    def of(cls, stage, orders):
        if (stage, orders) not in cls.kept:
            cls.kept[stage, orders] = Ends(stage, orders, (0, 1), (50,))
        return cls.kept[stage, orders]


def changed_cells(stage, orders, other_orders):
    """The cells that end with different colours, for some base."""
    one, other = Colours.of(stage, orders), Colours.of(stage, other_orders)
    return [
        cell for at, cell in enumerate(one.cells)
        if any(one.ends[picture][at] != other.ends[picture][at] for picture in one.ends)
    ]


def expected_changes(stage, orders, other_orders):
    cells = changed_cells(stage, orders, other_orders)
    found = [(name, region_of_points(points_on(cells, name))) for name, _, _ in stage]
    return tuple((name, region) for name, region in found if region)


class EditsTest(unittest.TestCase):
    def check_board(self, board, base, orders, log):
        """Check what a board tells."""
        self.assertEqual(board.orders, orders)
        self.assertEqual(board.script, Script(board.stage, orders))
        self.assertEqual(board.shown, paint(Script(board.stage, orders), base))
        self.assertEqual(board.log, log)
        self.assertEqual(board.base, base)
        self.assertIs(board.busy, False)
        self.assertEqual(len(board), len(orders))
        self.assertEqual(repr(board), f"{type(board).__name__}({len(orders)} orders)")
        self.assertEqual(str(board), repr(board))
        self.assertIs(bool(board), len(orders) > 0)
        self.assertEqual([type(each) for each in (board.orders, board.log, board.shown)], [tuple, tuple, Picture])

    def check_changes(self, found, stage, orders, other_orders):
        self.assertEqual(found, expected_changes(stage, orders, other_orders))
        self.assertIs(type(found), tuple)
        for pair in found:
            self.assertEqual((type(pair), len(pair), type(pair[1])), (tuple, 2, Region))

    def test_any_edits_step_by_step(self):
        for seed, kind in itertools.product(range(25), CLASSES):
            source = random.Random(seed)
            base = Picture(TINY, ("a", (0, 0, 2, 1), 1), ground=seed)
            board, orders, log, before = kind(base), (), (), []
            for step in range(12):
                if log and source.randrange(4) == 0:
                    changes, later = board.undo(), before.pop()
                    log = log[:-1]
                else:
                    edit = some_edit(source, TINY, len(orders))
                    later = behind(orders, edit)
                    if not slow.in_limits(TINY, later):
                        continue
                    changes = board.do(edit) if step % 2 else by_method(board, edit)
                    before.append(orders)
                    log = (*log, edit)
                self.check_changes(changes, TINY, orders, later)
                orders = later
                self.check_board(board, base, orders, log)
            while log:
                changes, later, log = board.undo(), before.pop(), log[:-1]
                self.check_changes(changes, TINY, orders, later)
                orders = later
                self.check_board(board, base, orders, log)
            self.assertEqual(orders, ())

    def test_both_ends_of_the_list(self):
        orders = (FILL, COPY, TURN, DOT)
        edits = [("insert", at, KEYED) for at in (0, 2, 4)] + [("remove", at) for at in (0, 1, 3)]
        edits += [("replace", at, KEYED) for at in (0, 2, 3)]
        edits += [("move", at, place) for at in range(4) for place in range(4)]
        for kind, edit in itertools.product(CLASSES, edits):
            boards = [kind(Picture(TINY)) for _ in range(2)]
            for board in boards:
                board.do_all(tuple(("insert", at, order) for at, order in enumerate(orders)))
            later = behind(orders, edit)
            for board in boards:
                changes = board.do(edit) if board is boards[0] else by_method(board, edit)
                self.check_changes(changes, TINY, orders, later)
                self.check_board(board, Picture(TINY), later, board.log)
                self.assertEqual(board.log[-1], edit)

    def test_by_name(self):
        board = NotedGuardedBoard(picture=Picture(TINY))
        board.do(edit=("insert", 0, FILL))
        board.insert_order(index=1, order=DOT)
        board.move_order(index=0, place=1)
        board.replace_order(index=0, order=TURN)
        board.remove_order(index=1)
        self.assertEqual(board.orders, (TURN,))
        self.assertEqual(board.do_all(edits=()), ())
        self.assertEqual(board.do_all(edits=(), watch=None), ())
        self.assertEqual(board.tried(edits=(), look=len), 1)
        board.guard(surface="b", rect=(0, 0, 1, 1))
        self.assertIsNone(board.change_base(picture=Picture(TINY, ground=3)))
        self.assertEqual(board.base, Picture(TINY, ground=3))

    def test_an_edit_that_changes_nothing(self):
        board = Board(Picture(TINY))
        self.assertEqual(board.insert_order(0, ("fill", "a", (9, 9, 1, 1), 1)), ())
        self.assertEqual(board.insert_order(1, ("repeat", 0, (FILL,))), ())
        self.assertEqual(board.insert_order(0, ("recolour", "a", (0, 0, 3, 1), ((1, 1),))), ())
        self.assertEqual(board.move_order(2, 0), ())
        self.assertEqual(board.undo(), ())
        self.assertEqual(len(board.log), 3)

    def test_what_is_different_for_some_base_only(self):
        # This base shows no difference; another one would.
        board = Board(Picture(TINY))
        self.assertEqual(board.insert_order(0, TURN[:3] + (((1, 0),),)), (("a", Region((0, 0, 3, 1))),))
        self.assertEqual(board.shown, Picture(TINY))
        self.assertEqual(board.insert_order(0, ("fill", "b", (0, 0, 1, 1), 0)), (("b", Region((0, 0, 1, 1))),))
        self.assertEqual(board.insert_order(0, KEYED), (("a", Region((1, 0, 2, 1))),))
        self.assertEqual(board.shown, Picture(TINY))

    def test_surfaces_in_their_order(self):
        board = Board(Picture(TINY))
        order = ("repeat", 1, (DOT, FILL))
        self.assertEqual(board.insert_order(0, order), (("a", Region((0, 0, 1, 1))), ("b", Region((0, 0, 1, 1)))))

    def test_large_surfaces(self):
        stage = (("a", BOUND, BOUND), ("b", BOUND, 3))
        board = Board(Picture(stage))
        whole = (0, 0, BOUND, BOUND)
        copy = ("copy", "a", whole, "a", 0, 0, "both", None)
        self.assertEqual(board.insert_order(0, copy), (("a", Region(whole)),))
        dot = ("fill", "a", (1, 2, 1, 1), 4)
        self.assertEqual(board.insert_order(0, dot), (("a", Region((BOUND - 2, BOUND - 3, 1, 1))),))
        self.assertEqual(
            board.move_order(0, 1), (("a", Region((1, 2, 1, 1), (BOUND - 2, BOUND - 3, 1, 1))),))
        self.assertEqual(board.insert_order(2, copy), (("a", Region(whole)),))
        self.assertEqual(board.shown["a", BOUND - 2, BOUND - 3], 4)
        self.assertEqual(board.undo(), (("a", Region(whole)),))
        self.assertEqual(board.shown["a", 1, 2], 4)

    def test_blocks_in_place_of_cells(self):
        great = slow.scaled_stage(TINY)
        for seed in range(6):
            source = random.Random(seed)
            small, large = Board(Picture(TINY)), Board(Picture(great))
            while len(small.log) < 8:
                edit = some_edit(source, TINY, len(small))
                # Blocks that are mirrored onto themselves have middles: their cells are unlike others.
                if slow.in_limits(TINY, behind(small.orders, edit)) and not mirrors(edit):
                    found = large.do(edit if edit[0] in ("remove", "move") else (
                        *edit[:2], slow.scaled_order(edit[2])))
                    self.assertEqual(found, tuple(
                        (name, Region(*[slow.scaled_rect(rect) for rect in region.rects]))
                        for name, region in small.do(edit)))

    def test_boards_are_equal_only_to_themselves(self):
        for kind, other_kind in itertools.product(CLASSES, CLASSES):
            one, other = kind(Picture(TINY)), other_kind(Picture(TINY))
            self.assertEqual([one == one, one != one, one == other, one != other], [True, False, False, True])
            for value in (None, True, 0, "", (), [], kind, repr(one)):
                self.assertIs(one == value, False)
                self.assertIs(one != value, True)

    def test_the_class_value(self):
        self.assertEqual([kind.MOST for kind in CLASSES], [100] * 4)
        self.assertEqual(Board(Picture(TINY)).MOST, 100)
        self.assertEqual(vars(Board)["MOST"], 100)


def mirrors(edit):
    """Tell if an edit puts an order in that mirrors, anywhere in it."""
    return any(word in repr(edit) for word in ("across", "down", "both", "mirrored"))


class DoAllTest(unittest.TestCase):
    edits = (("insert", 0, FILL), ("insert", 1, COPY), ("move", 0, 1), ("replace", 0, TURN), ("remove", 1))

    def boards(self, kind):
        """Two boards with the same orders and log."""
        found = [kind(Picture(TINY, ("a", (1, 0, 1, 1), 6))) for _ in range(2)]
        for board in found:
            board.insert_order(0, DOT)
            board.insert_order(1, KEYED)
            board.undo()
        return found

    def test_none_one_and_several_edits(self):
        for kind, many in itertools.product(CLASSES, range(6)):
            one, other = self.boards(kind)
            self.assertEqual(one.do_all(self.edits[:many]), tuple([other.do(edit) for edit in self.edits[:many]]))
            self.assertEqual(told(one), told(other))
            self.assertEqual(one.log[1:], self.edits[:many])

    def test_a_watch_that_asks(self):
        for kind in CLASSES:
            one, other = self.boards(kind)
            seen, expected, calls = [], [], []
            def watch(board, index):
                calls.append((board is one, index))
                self.assertIs(board.busy, True)
                seen.append(told(board))
            changes = one.do_all(self.edits, watch=watch)
            self.assertEqual(calls, [(True, index) for index in range(5)])
            for edit, change in zip(self.edits, changes):
                self.assertEqual(other.do(edit), change)
                expected.append([True if at == 5 else value for at, value in enumerate(told(other))])
            self.assertEqual(seen, expected)
            self.assertIs(one.busy, False)
            self.assertEqual(told(one), told(other))
            calls.clear()
            self.assertEqual(one.do_all((), watch=watch), ())
            self.assertEqual(calls, [])

    def check_that_nothing_stays(self, board, error, value, *arguments, **named):
        before = told(board)
        for _ in range(2):
            check_raises_equal(self, error, value, board.do_all, *arguments, **named)
            self.assertEqual(told(board), before)
        check_raises_equal(self, error, value, board.tried, arguments[0], len)
        self.assertEqual(told(board), before)

    def test_edits_that_fail_at_each_place(self):
        fails = (
            (("insert", 9, FILL), InvalidNumber, 9), (("remove", -1), InvalidNumber, -1),
            (("replace", 0, ("call", "p")), InvalidOrder, (0,)), (("move", 0, 77), InvalidNumber, 77),
            (("insert", 0, ("repeat", 12, (FILL, FILL))), TooManyOrders, None),
            (("insert", 0, ("repeat", 6, (COPY,))), TooManyCopies, None),
            (("insert", 0, ("within", (0, 0, 1, 1), (FILL, "fill"))), InvalidOrder, (0, 1)),
        )
        for kind, at, (edit, error, value) in itertools.product(CLASSES, range(5), fails):
            board, other = self.boards(kind)
            if value is None:
                other.do_all(self.edits[:at])
                orders = behind(other.orders, edit)
                plain = [order for order, _ in slow.written_out(orders, ())]
                value = len([order for order in plain if error is TooManyOrders or order[0] == "copy"])
            edits = self.edits[:at] + (edit,) + self.edits[at:]
            seen = []
            self.check_that_nothing_stays(board, error, value, edits)
            self.check_that_nothing_stays(board, error, value, edits, watch=lambda _, index: seen.append(index))
            # It was watched behind those ahead of the one that fails.
            self.assertEqual(seen, list(range(at)) * 2)
            board.do_all(self.edits)
            self.assertEqual(board.log[1:], self.edits)

    def test_values_that_are_no_edits_come_before_all_edits(self):
        for kind, at in itertools.product(CLASSES, range(5)):
            board = self.boards(kind)[0]
            for value in NOT_EDITS:
                edits = (("insert", 99, None),) * at + (value,) + self.edits
                self.check_that_nothing_stays(board, InvalidEdit, at, edits)
                self.check_that_nothing_stays(board, InvalidEdit, at, edits + (value,), watch=lambda *_: self.fail())
        for value in ODD_VALUES + (0, 1, "insert", [("remove", 0)], {("remove", 0): 1}):
            self.check_that_nothing_stays(board, InvalidEdit, None, value)

    def test_a_watch_that_changes_the_board(self):
        for kind in CLASSES:
            board, other = self.boards(kind)
            tries = []
            def watch(board, index):
                tries.extend(changes_that_are_barred(self, board))
            changes = board.do_all(self.edits, watch=watch)
            self.assertEqual(changes, other.do_all(self.edits))
            self.assertEqual(told(board), told(other))
            self.assertGreater(len(tries), 50)
            before = told(board)
            with self.assertRaises(Busy):
                board.do_all(self.edits, watch=lambda board, index: board.undo())
            self.assertEqual(told(board), before)

    def test_a_watch_that_raises(self):
        for kind, at, error in itertools.product(CLASSES, range(5), (KeyError, Guarded, StopIteration, KeyboardInterrupt)):
            board = self.boards(kind)[0]
            before = told(board)
            def watch(board, index):
                if index == at:
                    raise error("x")
            with self.assertRaises(error):
                board.do_all(self.edits, watch=watch)
            self.assertEqual(told(board), before)
            board.do(("insert", 0, FILL))


def changes_that_are_barred(test, board):
    """Check that all that changes a busy board raises Busy, whatever is passed."""
    calls = [
        lambda: board.do(("insert", 0, FILL)), lambda: board.do(None), lambda: board.insert_order(0, FILL),
        lambda: board.insert_order(None, None), lambda: board.remove_order(0), lambda: board.remove_order(-5),
        lambda: board.replace_order(0, FILL), lambda: board.replace_order(99, None), lambda: board.move_order(0, 0),
        lambda: board.move_order(99, None), lambda: board.do_all(()), lambda: board.do_all(None),
        lambda: board.do_all((("insert", 0, FILL),), watch=len), lambda: board.undo(), lambda: board.tried((), len),
        lambda: board.tried(None, None), lambda: board.change_base(Picture(TINY)), lambda: board.change_base(5),
        lambda: board.change_base(Picture((("c", 1, 1),))), lambda: setattr(board, "base", Picture(TINY)),
        lambda: setattr(board, "base", None),
    ]
    if isinstance(board, GuardedBoard):
        calls += [lambda: board.guard("a", (0, 0, 1, 1)), lambda: board.guard(None, None)]
    before = told(board)
    for call in calls:
        test.assertEqual(vars(raised_by(test, Busy, call)), {})
        test.assertEqual(told(board), before)
    test.assertIs(board.busy, True)
    return calls


class TriedTest(unittest.TestCase):
    edits = DoAllTest.edits
    boards = DoAllTest.boards

    def test_none_one_and_several_edits(self):
        for kind, many in itertools.product(CLASSES, range(6)):
            board, other = self.boards(kind)
            before = told(board)
            other.do_all(self.edits[:many])
            expected = [True if at == 5 else value for at, value in enumerate(told(other))]
            def look(asked):
                self.assertIs(asked, board)
                return told(asked)
            self.assertEqual(board.tried(self.edits[:many], look), expected)
            self.assertEqual(told(board), before)
            for value in (None, True, (), 7, look):
                self.assertIs(board.tried(self.edits[:many], lambda _: value), value)
                self.assertEqual(told(board), before)

    def test_a_look_that_changes_the_board(self):
        for kind in CLASSES:
            board = self.boards(kind)[0]
            before = told(board)
            tries = board.tried(self.edits, lambda board: changes_that_are_barred(self, board))
            self.assertGreater(len(tries), 10)
            self.assertEqual(told(board), before)
            with self.assertRaises(Busy):
                board.tried(self.edits, lambda board: board.tried((), len))
            self.assertEqual(told(board), before)

    def test_a_look_that_raises(self):
        for kind, error in itertools.product(CLASSES, (KeyError, Busy, StopIteration, KeyboardInterrupt)):
            board = self.boards(kind)[0]
            before = told(board)
            def look(board):
                raise error()
            with self.assertRaises(error):
                board.tried(self.edits, look)
            self.assertEqual(told(board), before)
            board.undo()

    def test_that_it_is_not_looked_behind_an_error(self):
        board = self.boards(NotedGuardedBoard)[0]
        edits = self.edits + (("remove", 9),)
        check_raises(self, InvalidNumber, edits[-1][1], board.tried, edits, lambda _: self.fail())


NOT_EDITS = ODD_VALUES + (
    0, 1, "insert", "undo", (), ("insert",), ("remove",), ("insert", 0), ("remove", 0, 0), ("replace", 0), ("move", 0),
    ("insert", 0, FILL, 0), ("replace", 0, FILL, None), ("move", 0, 0, 0), ("undo",), ("undo", 0), ("Insert", 0, FILL),
    ("remove ", 0), ["remove", 0], (["remove"], 0), (b"remove", 0), (0, "remove"), (None, 0), (None, 0, FILL), FILL,
    (("remove", 0),), {"remove": 0}, ("fill", 0, FILL), ("", 0), (True, 0),
)


class ErrorsTest(unittest.TestCase):
    def board(self, kind=Board, orders=(DOT,)):
        board = kind(Picture(TINY))
        for at, order in enumerate(orders):
            board.insert_order(at, order)
        return board

    def test_what_is_not_a_picture(self):
        for kind, value in itertools.product(CLASSES, ODD_VALUES + (0, TINY, Script(TINY), Picture)):
            check_raises(self, NotAPicture, value, kind, value)
            check_raises(self, NotAPicture, value, kind, picture=value)

    def test_what_is_no_edit(self):
        for kind, value in itertools.product(CLASSES, NOT_EDITS):
            board = self.board(kind)
            before = told(board)
            check_raises(self, InvalidEdit, None, board.do, value)
            check_raises(self, InvalidEdit, None, board.do, edit=value)
            self.assertEqual(told(board), before)

    def test_what_is_no_index(self):
        board = self.board(Board, (DOT, FILL))
        before = told(board)
        for value in NOT_INTEGERS + (-1, 2, 10 ** 39, -10 ** 39, BOUND):
            for call, arguments in (
                (board.remove_order, (value,)), (board.replace_order, (value, FILL)), (board.move_order, (value, 0)),
                (board.move_order, (0, value)), (board.move_order, (value, value)), (board.replace_order, (value, None)),
                (board.do, (("remove", value),)), (board.do, (("move", value, None),)), (board.do, (("move", 1, value),)),
                (board.do_all, ((("remove", value),),)), (board.tried, ((("move", 0, value),), len)),
            ):
                check_raises(self, InvalidNumber, value, call, *arguments)
            if value != 2 or value is True:
                check_raises(self, InvalidNumber, value, board.insert_order, value, FILL)
                check_raises(self, InvalidNumber, value, board.insert_order, value, None)
        check_raises_equal(self, InvalidNumber, 3, board.insert_order, 3, FILL)
        self.assertEqual(told(board), before)
        empty = Board(Picture(TINY))
        for call, arguments in (
            (empty.remove_order, (0,)), (empty.replace_order, (0, FILL)), (empty.move_order, (0, 0)),
        ):
            check_raises_equal(self, InvalidNumber, 0, call, *arguments)
        check_raises_equal(self, InvalidNumber, 1, empty.insert_order, 1, FILL)

    def test_what_is_no_order(self):
        board = self.board()
        before = told(board)
        deep = FILL
        for _ in range(5):
            deep = ("moved", 0, 0, (deep,))
        for value, path in (
            (None, ()), ("fill", ()), (list(FILL), ()), (("call", "p"), ()), (FILL[:3], ()),
            (("fill", "c", (0, 0, 1, 1), 1), ()), (("fill", "a", (0, 0, -1, 1), 1), ()), (("repeat", 13, ()), ()),
            (("moved", 0, 0, (FILL, ("call", "p"))), (1,)), (("repeat", 0, (("moved", 0, 0, (None,)),)), (0, 0)),
            (("moved", 0, 0, (deep,)), (0,) * 6),
        ):
            for call, arguments in (
                (board.insert_order, (0, value)), (board.insert_order, (1, value)), (board.replace_order, (0, value)),
                (board.do, (("insert", 1, value),)), (board.do, (("replace", 0, value),)),
                (board.do_all, ((("remove", 0), ("insert", 0, value)),)),
            ):
                check_raises_equal(self, InvalidOrder, (0, *path), call, *arguments)
        self.assertEqual(told(board), before)
        board.insert_order(0, deep)

    def test_the_four_limits(self):
        many = {TooManyOrders: (FILL, 16), TooManyCopies: (COPY, 4), TooManyKeys: (KEYED, 2), TooManyRecolours: (TURN, 4)}
        for error, (order, most) in many.items():
            board = self.board(Board, (DOT,) + (order,) * (most - (error is TooManyOrders)))
            before = told(board)
            for call, arguments, found in (
                (board.insert_order, (0, order), most + 1), (board.replace_order, (0, ("repeat", 2, (order,))), None),
                (board.insert_order, (1, ("repeat", 2, (order,))), most + 2),
                (board.do, (("insert", 0, ("moved", 1, 0, (order,))),), most + 1),
            ):
                if found is None:
                    found = most + 1 if error is TooManyOrders else most + 2
                check_raises_equal(self, error, found, call, *arguments)
            self.assertEqual(told(board), before)
        board = self.board(Board, (DOT, ("repeat", 0, (COPY,) * 9)))
        check_raises_equal(self, TooManyOrders, 12 ** 5 * 16 + 1, board.replace_order, 1, ("repeat", 12, (
            ("repeat", 12, (("repeat", 12, (("repeat", 12, (("repeat", 12, (COPY,) * 16),)),)),)),)))

    def test_a_full_log(self):
        for kind in CLASSES:
            board = kind(Picture(TINY))
            board.insert_order(0, FILL)
            for _ in range(98):
                board.move_order(0, 0)
            board.do_all((("move", 0, 0),))
            self.assertEqual(len(board.log), 100)
            before = told(board)
            for call, arguments in (
                (board.move_order, (0, 0)), (board.insert_order, (0, DOT)), (board.remove_order, (0,)),
                (board.do_all, ((("replace", 0, DOT),),)), (board.tried, ((("remove", 0),), len)),
            ):
                check_raises_equal(self, TooManyEdits, 100, call, *arguments)
            # All other errors of an edit come before, but for that of a guard.
            check_raises_equal(self, InvalidEdit, None, board.do, ("remove",))
            check_raises_equal(self, InvalidNumber, 1, board.remove_order, 1)
            check_raises_equal(self, InvalidOrder, (0,), board.insert_order, 0, None)
            check_raises_equal(self, TooManyCopies, 5, board.insert_order, 0, ("repeat", 5, (COPY,)))
            self.assertEqual(board.do_all(()), ())
            self.assertEqual(board.tried((), len), 1)
            self.assertEqual(told(board), before)
            board.undo()
            check_raises_equal(self, TooManyEdits, 100, board.do_all, (("move", 0, 0),) * 2)
            self.assertEqual(len(board.log), 99)
            board.remove_order(0)
            self.assertEqual((len(board.log), len(board)), (100, 0))
            for _ in range(100):
                board.undo()
            self.assertEqual((board.log, board.orders), ((), ()))
            self.assertEqual(vars(raised_by(self, NothingToUndo, board.undo)), {})

    def test_nothing_to_undo(self):
        for kind in CLASSES:
            board = kind(Picture(TINY))
            raised_by(self, NothingToUndo, board.undo)
            board.insert_order(0, FILL)
            board.undo()
            raised_by(self, NothingToUndo, board.undo)
            board.tried((("insert", 0, FILL),), len)
            raised_by(self, NothingToUndo, board.undo)


class BaseTest(unittest.TestCase):
    def test_another_base(self):
        for kind in CLASSES:
            board = kind(Picture(TINY))
            changes = board.do_all(DoAllTest.edits)
            kept = board.orders, board.log, len(board)
            for ground, assign in ((3, True), (4, False)):
                base = Picture(TINY, ("a", (0, 0, 1, 1), 9), ground=ground)
                if assign:
                    board.base = base
                else:
                    self.assertIsNone(board.change_base(base))
                self.assertEqual(board.base, base)
                self.assertEqual(board.shown, paint(board.script, base))
                self.assertEqual((board.orders, board.log, len(board)), kept)
            self.assertEqual(board.undo(), changes[-1])
            self.assertEqual(board.base, base)
            if isinstance(board, NotedBoard):
                self.assertEqual(len(board.notes()), 6)

    def test_errors(self):
        for kind in CLASSES:
            board = kind(Picture(TINY))
            before = told(board)
            for value in ODD_VALUES + (0, TINY, Script(TINY), board, Picture):
                check_raises(self, NotAPicture, value, board.change_base, value)
                check_raises(self, NotAPicture, value, setattr, board, "base", value)
            for stage in (TINY[:1], TINY + (("c", 1, 1),), (("a", 3, 1), ("b", 1, 3))):
                raised_by(self, DifferentStages, board.change_base, Picture(stage))
                raised_by(self, DifferentStages, setattr, board, "base", Picture(stage))
            self.assertEqual(told(board), before)


class InterfaceTest(unittest.TestCase):
    def test_each_method_stands_in_its_class(self):
        for kind, names in (
            (Board, "stage orders script shown log busy base change_base do insert_order remove_order replace_order "
                    "move_order do_all undo tried __len__ __repr__ __init__ MOST"),
            (NotedBoard, "notes"), (GuardedBoard, "guard guards"),
        ):
            for name in names.split():
                self.assertIn(name, vars(kind))
            self.assertEqual(kind.__module__, "allscreens.board")
        for name in ("stage", "orders", "script", "shown", "log", "busy", "base"):
            self.assertIsInstance(vars(Board)[name], property)
            if name != "base":
                with self.assertRaises(AttributeError):
                    setattr(Board(Picture(TINY)), name, None)
        self.assertIsInstance(vars(GuardedBoard)["guards"], property)
        self.assertEqual(board_module.NotedGuardedBoard.__module__, "allscreens.board")

    def test_the_classes_above(self):
        self.assertEqual(
            [(issubclass(one, other)) for one, other in itertools.product(CLASSES, CLASSES)],
            [True, False, False, False, True, True, False, False, True, False, True, False, True, True, True, True])

    def test_boards_by_turns(self):
        source = random.Random(5)
        boards = [kind(Picture(TINY)) for kind in CLASSES for _ in range(2)]
        for _ in range(10):
            edit = some_edit(source, TINY, len(boards[0]))
            if slow.in_limits(TINY, behind(boards[0].orders, edit)):
                found = [board.do(edit) for board in boards]
                self.assertEqual(found, [found[0]] * 8)
        changes = boards[3].undo()
        self.assertEqual([board.log for board in boards[4:]], [boards[0].log] * 4)
        self.assertEqual(boards[3].log, boards[0].log[:-1])
        self.assertEqual(boards[5].undo(), changes)

    def test_a_board_that_asks_another_one(self):
        one, other = Board(Picture(TINY)), NotedBoard(Picture(TINY))
        def watch(board, index):
            other.insert_order(0, DOT)
            self.assertEqual((board.busy, other.busy), (True, False))
        one.do_all((("insert", 0, FILL), ("insert", 0, FILL)), watch=watch)
        self.assertEqual((len(one), len(other)), (2, 2))

    def test_the_example_of_the_document(self):
        run_example(self, EXAMPLE)


if __name__ == "__main__":
    unittest.main()
