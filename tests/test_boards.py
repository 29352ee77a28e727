"""The further boards: those that keep notes, and those that are guarded."""

import itertools
import random
import unittest

import slow
from allscreens.board import Board, GuardedBoard, NotedBoard, NotedGuardedBoard
from allscreens.errors import (
    Busy, Guarded, InvalidEdit, InvalidNumber, InvalidOrder, InvalidRect, InvalidSurface, TooManyEdits, TooManyRecolours,
)
from allscreens.pictures import Picture
from allscreens.regions import Region
from helpers import (
    BOUND, NOT_RECTS, NOT_SURFACES, STAGE, check_raises, check_raises_equal, raised_by, run_example,
)
from test_board import COPY, DOT, FILL, KEYED, TINY, TURN, behind, changed_cells, some_edit, told

EXAMPLE = """
>>> from allscreens.board import GuardedBoard
>>> from allscreens.pictures import Picture
>>> board = GuardedBoard(Picture((("a", 5, 1),)))
>>> board.guard("a", (4, 0, 1, 1))
>>> board.insert_order(0, ("copy", "a", (0, 0, 5, 1), "a", 0, 0, "across", None))
raises Guarded(name='a')
"""

NOTED = (NotedBoard, NotedGuardedBoard)
GUARDED = (GuardedBoard, NotedGuardedBoard)
EDITS = (("insert", 0, FILL), ("insert", 1, COPY), ("move", 0, 1), ("remove", 0))


class NotesTest(unittest.TestCase):
    def test_edits_and_undos(self):
        for seed, kind in itertools.product(range(6), NOTED):
            source = random.Random(seed)
            board, expected = kind(Picture(TINY)), []
            self.assertEqual(board.notes(), ())
            for _ in range(15):
                if board.log and source.randrange(3) == 0:
                    expected.append((("undo",), board.undo()))
                else:
                    edit = some_edit(source, TINY, len(board))
                    if not slow.in_limits(TINY, behind(board.orders, edit)):
                        continue
                    if source.randrange(2):
                        expected.append((edit, board.do(edit)))
                    else:
                        expected.append((edit, board.do_all((edit,))[0]))
                self.assertEqual(board.notes(), tuple(expected))
            self.assertIs(type(board.notes()), tuple)
            board.change_base(Picture(TINY, ground=5))
            self.assertEqual(board.notes(), tuple(expected))

    def test_within_watch_and_look(self):
        for kind in NOTED:
            board, seen = kind(Picture(TINY)), []
            board.insert_order(0, DOT)
            before = board.notes()
            looked = board.tried(EDITS, lambda board: board.notes())
            self.assertEqual(board.notes(), before)
            changes = board.do_all(EDITS, watch=lambda board, _: seen.append(board.notes()))
            expected = before + tuple(zip(EDITS, changes))
            self.assertEqual(looked, expected)
            self.assertEqual(board.notes(), expected)
            self.assertEqual(seen, [expected[:2 + at] for at in range(4)])

    def test_nothing_stays_of_what_failed(self):
        for kind in NOTED:
            board, seen = kind(Picture(TINY)), []
            board.insert_order(0, DOT)
            board.undo()
            before = board.notes()
            self.assertEqual(len(before), 2)
            for _ in range(2):
                with self.assertRaises(InvalidNumber):
                    board.do_all(EDITS + (("remove", 9),), watch=lambda board, _: seen.append(len(board.notes())))
                self.assertEqual(board.notes(), before)
                for error in (KeyError, KeyboardInterrupt):
                    def fails(*_):
                        self.assertEqual(len(board.notes()), 6 if len(_) == 1 else 3)
                        raise error()
                    with self.assertRaises(error):
                        board.tried(EDITS, fails)
                    self.assertEqual(board.notes(), before)
                    with self.assertRaises(error):
                        board.do_all(EDITS, watch=fails)
                    self.assertEqual(board.notes(), before)
                with self.assertRaises(InvalidEdit):
                    board.do(None)
                with self.assertRaises(InvalidEdit):
                    board.do_all((None,))
                self.assertEqual(board.notes(), before)
            self.assertEqual(seen, [3, 4, 5, 6] * 2)

    def test_calls_that_are_barred_leave_the_notes(self):
        for kind in NOTED:
            board = kind(Picture(TINY))
            def watch(board, index):
                for call in (board.do_all, board.do):
                    raised_by(self, Busy, call, ())
                raised_by(self, Busy, board.tried, EDITS, len)
                raised_by(self, Busy, board.undo)
            board.do_all(EDITS, watch=watch)
            self.assertEqual([edit for edit, _ in board.notes()], list(EDITS))

    def test_undos_of_edits_that_were_made_together(self):
        for kind in NOTED:
            board = kind(Picture(TINY))
            board.do_all(EDITS)
            for _ in EDITS:
                board.undo()
            notes = board.notes()
            self.assertEqual([edit for edit, _ in notes[4:]], [("undo",)] * 4)
            self.assertEqual([changes for _, changes in notes[4:]], [changes for _, changes in notes[3::-1]])
            self.assertEqual(board.log, ())


class GuardsTest(unittest.TestCase):
    def test_guards_in_their_order(self):
        for kind in GUARDED:
            board = kind(Picture(TINY))
            self.assertEqual(board.guards, ())
            guards = (("b", (0, 0, 1, 1)), ("a", (-5, 0, 9, 9)), ("a", (0, 0, 0, 0)), ("b", (0, 0, 1, 1)))
            for at, guard in enumerate(guards):
                self.assertIsNone(board.guard(*guard))
                self.assertEqual(board.guards, guards[:at + 1])
            self.assertIs(type(board.guards), tuple)
            self.assertEqual((board.log, len(board)), ((), 0))

    def test_any_edits_beside_all_bases(self):
        outcomes = []
        for seed, kind in itertools.product(range(25), GUARDED):
            source = random.Random(seed)
            board, free = kind(Picture(TINY)), Board(Picture(TINY))
            guards = [(name, slow.rect_on(source, 2, 2)) for name in ("a", source.choice("ab"))]
            for guard in guards:
                board.guard(*guard)
            for _ in range(6):
                edit = some_edit(source, TINY, len(free))
                later = behind(free.orders, edit)
                if not slow.in_limits(TINY, later):
                    continue
                cells = changed_cells(TINY, free.orders, later)
                guarded = [
                    name for name, x, y in cells
                    if any(name == surface and left <= x < left + width and top <= y < top + height
                           for surface, (left, top, width, height) in guards)]
                outcomes.append(bool(guarded))
                if not guarded:
                    self.assertEqual(board.do(edit), free.do(edit))
                    continue
                before = told(board)
                for call, arguments in (
                    (board.do, (edit,)), (board.do_all, ((edit,),)), (board.tried, ((edit,), len)),
                ):
                    check_raises_equal(self, Guarded, min(guarded), call, *arguments)
                    self.assertEqual(told(board), before)
        self.assertGreater(min(outcomes.count(True), outcomes.count(False)), 40)

    def test_a_cell_that_changes_only_for_some_base(self):
        for kind in GUARDED:
            board = kind(Picture(TINY))
            board.guard("a", (1, 0, 1, 1))
            # With this base no shown colour changes.
            check_raises_equal(self, Guarded, "a", board.insert_order, 0, TURN[:3] + (((1, 2),),))
            check_raises_equal(self, Guarded, "a", board.insert_order, 0, KEYED)
            check_raises_equal(self, Guarded, "a", board.insert_order, 0, ("fill", "a", (0, 0, 2, 1), 0))
            self.assertEqual(board.insert_order(0, ("fill", "a", (0, 0, 1, 1), 0)), (("a", Region((0, 0, 1, 1))),))
            self.assertEqual(board.insert_order(0, ("fill", "b", (0, 0, 1, 1), 0)), (("b", Region((0, 0, 1, 1))),))
            self.assertEqual(board.insert_order(0, TURN[:3] + (((1, 1),),)), ())

    def test_undos(self):
        for kind in GUARDED:
            board = kind(Picture(TINY))
            board.insert_order(0, FILL)
            board.insert_order(1, DOT)
            board.guard("a", (0, 0, 1, 1))
            board.undo()
            before = told(board)
            check_raises_equal(self, Guarded, "a", board.undo)
            self.assertEqual(told(board), before)
            self.assertEqual(board.log, (("insert", 0, FILL),))
            # What cannot be seen may be undone.
            other = kind(Picture(TINY))
            other.insert_order(0, FILL)
            other.insert_order(0, ("fill", "a", (0, 0, 1, 1), 7))
            other.guard("a", (0, 0, 1, 1))
            self.assertEqual(other.undo(), ())

    def test_the_first_name(self):
        both = ("repeat", 1, (DOT, FILL))
        for kind, surfaces in itertools.product(GUARDED, (("a", "b"), ("b", "a"))):
            board = kind(Picture(TINY))
            for surface in surfaces:
                board.guard(surface, (0, 0, 1, 1))
            check_raises_equal(self, Guarded, "a", board.insert_order, 0, both)
            board = kind(Picture(TINY))
            board.guard("b", (0, 0, 1, 1))
            check_raises_equal(self, Guarded, "b", board.insert_order, 0, both)
            board.guard("a", (1, 0, 2, 1))
            check_raises_equal(self, Guarded, "b", board.insert_order, 0, both)

    def test_that_it_comes_last(self):
        for kind in GUARDED:
            board = kind(Picture(TINY))
            board.insert_order(0, FILL)
            for surface in "ab":
                board.guard(surface, (0, 0, 9, 9))
            check_raises_equal(self, InvalidEdit, None, board.do, ("insert", 0))
            check_raises_equal(self, InvalidNumber, 7, board.remove_order, 7)
            check_raises_equal(self, InvalidOrder, (0,), board.replace_order, 0, None)
            check_raises_equal(self, TooManyRecolours, 5, board.insert_order, 1, ("repeat", 5, (TURN,)))
            check_raises_equal(self, Guarded, "a", board.remove_order, 0)
            for _ in range(99):
                board.move_order(0, 0)
            check_raises_equal(self, TooManyEdits, 100, board.remove_order, 0)
            check_raises_equal(self, InvalidNumber, 5, board.do_all, (("remove", 5), ("remove", 0)))
            board.undo()
            check_raises_equal(self, Guarded, "a", board.do_all, (("remove", 0), ("remove", 5)))

    def test_all_edits_of_a_call_are_barred_with_one_of_them(self):
        for kind, at in itertools.product(GUARDED, range(4)):
            board, seen = kind(Picture(TINY)), []
            board.guard("b", (0, 1, 1, 1))
            edits = EDITS[:at] + (("insert", 0, ("fill", "b", (0, 1, 1, 1), 3)),) + EDITS[at:]
            before = told(board)
            check_raises_equal(self, Guarded, "b", board.do_all, edits, watch=lambda _, index: seen.append(index))
            self.assertEqual(seen, list(range(at)))
            self.assertEqual(told(board), before)
            # It is barred by itself, even if the next one would take it back.
            check_raises_equal(self, Guarded, "b", board.do_all, (edits[at], ("remove", 0)))
            self.assertEqual(len(board.do_all(EDITS)), 4)

    def test_another_base_is_not_barred(self):
        for kind in GUARDED:
            board = kind(Picture(TINY))
            board.guard("a", (0, 0, 9, 9))
            board.base = Picture(TINY, ground=8)
            self.assertEqual(board.shown["a", 0, 0], 8)
            board.change_base(Picture(TINY, ground=9))
            self.assertEqual(board.shown["a", 0, 0], 9)

    def test_errors(self):
        for kind in GUARDED:
            board = kind(Picture(STAGE))
            for value in NOT_SURFACES:
                check_raises(self, InvalidSurface, value, board.guard, value, (0, 0, 1, 1))
                check_raises(self, InvalidSurface, value, board.guard, rect=None, surface=value)
            for value in NOT_RECTS:
                check_raises(self, InvalidRect, value, board.guard, "a", value)
                check_raises(self, InvalidRect, value, board.guard, surface="a", rect=value)
            self.assertEqual(board.guards, ())

    def test_guards_while_the_board_is_busy(self):
        for kind in GUARDED:
            board = kind(Picture(TINY))
            def watch(board, index):
                raised_by(self, Busy, board.guard, "a", (0, 0, 1, 1))
                raised_by(self, Busy, board.guard, None, None)
                self.assertEqual(board.guards, ())
            board.do_all(EDITS, watch=watch)
            board.tried((), lambda board: watch(board, 0))
            self.assertEqual(board.guards, ())
            with self.assertRaises(Busy):
                board.do_all((("insert", 0, FILL),), watch=lambda board, _: board.guard("a", (0, 0, 1, 1)))
            self.assertEqual(len(board), 1)
            board.guard("a", (0, 0, 1, 1))
            self.assertEqual(board.tried((), lambda board: board.guards), (("a", (0, 0, 1, 1)),))

    def test_large_surfaces(self):
        stage = (("a", BOUND, BOUND),)
        for kind in GUARDED:
            board = kind(Picture(stage))
            board.guard("a", (BOUND - 1, BOUND - 1, BOUND, BOUND))
            whole = (0, 0, BOUND, BOUND)
            check_raises_equal(self, Guarded, "a", board.insert_order, 0, ("fill", "a", whole, 3))
            check_raises_equal(
                self, Guarded, "a", board.insert_order, 0, ("copy", "a", (0, 0, 1, 1), "a", BOUND - 1, BOUND - 1, "none", 4))
            board.insert_order(0, ("fill", "a", (0, 0, BOUND, BOUND - 1), 3))
            board.insert_order(1, ("fill", "a", (0, 0, BOUND - 1, BOUND), 3))

    def test_notes_of_a_guarded_board(self):
        board = NotedGuardedBoard(Picture(TINY))
        board.guard("b", (0, 0, 1, 2))
        changes = board.insert_order(0, FILL)
        check_raises_equal(self, Guarded, "b", board.insert_order, 0, DOT)
        check_raises_equal(self, Guarded, "b", board.do_all, (("remove", 0), ("insert", 0, DOT)))
        undone = board.undo()
        self.assertEqual(board.notes(), ((("insert", 0, FILL), changes), (("undo",), undone)))
        self.assertEqual(board.guards, (("b", (0, 0, 1, 2)),))

    def test_the_example_of_the_document(self):
        run_example(self, EXAMPLE)


if __name__ == "__main__":
    unittest.main()
