import ast
import itertools
import pathlib
import random
import unittest

import slow
import slow_checker
import slow_forms
from allscreens import checker
from allscreens.checker import accepts
from allscreens.comparing import alike
from allscreens.even import even_lists
from allscreens.passes import without_idle
from allscreens.pictures import Picture
from allscreens.scripts import Script
from helpers import (
    BOUND, NOT_CELLS, NOT_COLOURS, NOT_RECTS, NOT_STAGES, NOT_SURFACES, ODD_VALUES, STAGE, AlwaysEqual, points_of,
)
from slow_ends import Ends
from test_comparing import some_pair

SMALL = (("a", 4, 2), ("b", 3, 3))
ROW = (("a", 5, 1),)
TINY = (("a", 3, 1), ("b", 1, 2))

FILL = ("fill", "a", (0, 0, 2, 1), 1)
TURN = ("recolour", "a", (0, 0, 2, 1), ((0, 1),))
COPY = ("copy", "a", (0, 0, 2, 1), "a", 1, 0, "none", None)
KEYED = COPY[:7] + (0,)


def covers_of(stage, one, other):
    return [
        [rect for rects in even_lists((0, 0, width, height), name, [one, other]) for rect in rects]
        for name, width, height in stage
    ]


class CheckerTest(unittest.TestCase):
    def check(self, expected, claim, certificate=None):
        with self.subTest(claim=claim, certificate=certificate):
            self.assertIs(accepts(claim, certificate), expected)
            self.assertIs(accepts(certificate=certificate, claim=claim), expected)


class AlikeTest(CheckerTest):
    def check_covers(self, stage, one, other, covers):
        """Check a certificate beside what is found cell by cell."""
        expected = slow_checker.shows_alike(stage, one, other, covers)
        self.check(expected, ("alike", stage, one, other), tuple(tuple(cover) for cover in covers))
        return expected

    def some_alike(self, source, stage, many):
        """The strokes of two scripts that are alike."""
        script = Script(stage, slow.some_orders(source, stage, many))
        other = without_idle(script)
        return (script.strokes, other.strokes) if source.randrange(2) else (other.strokes, script.strokes)

    def test_even_covers_and_what_comes_of_them(self):
        source = random.Random(1)
        for many in range(7):
            for _ in range(8):
                for stage in (SMALL, ROW):
                    one, other = self.some_alike(source, stage, many)
                    covers = covers_of(stage, one, other)
                    self.assertTrue(self.check_covers(stage, one, other, covers))
                    finer = [
                        [part for rect in cover for part in slow_checker.split(source, rect, source.randint(0, 2))]
                        for cover in covers]
                    self.assertTrue(self.check_covers(stage, one, other, finer))
                    single = [slow_checker.singles(width, height) for _, width, height in stage]
                    self.assertTrue(self.check_covers(stage, one, other, single))
                    at = source.randrange(len(stage))
                    for cover in slow_checker.spoilt_covers(source, tuple(finer[at])):
                        claim = ("alike", stage, one, other)
                        self.check(False, claim, tuple(map(tuple, finer[:at])) + (cover,) + tuple(map(tuple, finer[at + 1:])))

    def test_any_covers(self):
        source = random.Random(2)
        outcomes = []
        for many in range(5):
            for _ in range(30):
                for stage in (SMALL, ROW):
                    one, other = self.some_alike(source, stage, many)
                    covers = [
                        slow_checker.split(source, (0, 0, width, height), source.randint(0, 8)) for _, width, height in stage]
                    outcomes.append(self.check_covers(stage, one, other, covers))
        self.assertGreater(min(outcomes.count(True), outcomes.count(False)), 50)

    def test_joined_rectangles(self):
        source = random.Random(3)
        outcomes = []
        for _ in range(300):
            one, other = self.some_alike(source, SMALL, source.randint(1, 4))
            covers = [list(cover) for cover in covers_of(SMALL, one, other)]
            cover = source.choice(covers)
            for rect, second in itertools.combinations(cover, 2):
                points = points_of(rect) | points_of(second)
                xs, ys = sorted(x for x, _ in points), sorted(y for _, y in points)
                both = (xs[0], ys[0], xs[-1] - xs[0] + 1, ys[-1] - ys[0] + 1)
                if points_of(both) == points:
                    rest = [each for each in cover if each not in (rect, second)]
                    found = [each if each is not cover else rest + [both] for each in covers]
                    outcomes.append(self.check_covers(SMALL, one, other, found))
        self.assertGreater(min(outcomes.count(True), outcomes.count(False)), 10)

    def test_scripts_that_are_not_alike(self):
        source = random.Random(4)
        outcomes = []
        for _ in range(250):
            one, other = [Script(SMALL, orders) for orders in some_pair(source, SMALL, source.randint(1, 6))]
            outcomes.append(alike(one, other))
            covers = covers_of(SMALL, one.strokes, other.strokes)
            self.assertIs(self.check_covers(SMALL, one.strokes, other.strokes, covers), outcomes[-1])
            singles = [slow_checker.singles(width, height) for _, width, height in SMALL]
            self.assertIs(self.check_covers(SMALL, one.strokes, other.strokes, singles), outcomes[-1])
        self.assertGreater(min(outcomes.count(True), outcomes.count(False)), 40)

    def test_the_examples_of_point_18(self):
        stage = (("a", 5, 2),)
        fill = (("fill", "a", (0, 0, 2, 2), 5),)
        claim = ("alike", stage, fill, fill + fill)
        self.check(True, claim, (((0, 0, 2, 2), (2, 0, 3, 2)),))
        self.check(False, claim, (((0, 0, 5, 2),),))
        self.check(False, claim, (((0, 0, 3, 2), (3, 0, 2, 2)),))
        keyed = (("copy", "a", (0, 0, 5, 2), "a", 0, 0, "across", 4),)
        claim = ("alike", stage, keyed, keyed)
        self.check(False, claim, (((0, 0, 5, 2),),))
        self.check(False, claim, (((0, 0, 3, 2), (3, 0, 2, 2)),))
        self.check(True, claim, (((0, 0, 2, 2), (2, 0, 1, 2), (3, 0, 2, 2)),))
        flip = (keyed[0][:7] + (None,),)
        self.check(True, ("alike", stage, flip, flip), (((0, 0, 5, 2),),))
        # A way back through the one and one through the other meet in the middle column.
        middle = (("copy", "a", (0, 0, 5, 2), "a", 0, 0, "none", None),)
        self.check(False, ("alike", stage, flip + flip, middle), (((0, 0, 5, 2),),) * 2)
        self.check(True, ("alike", stage, flip + flip, middle), (((0, 0, 5, 2),),))
        half = (("copy", "a", (0, 0, 3, 2), "a", 2, 0, "across", None),)
        self.check(True, ("alike", stage, half, half + half), (((0, 0, 2, 2), (2, 0, 1, 2), (3, 0, 2, 2)),))
        self.check(False, ("alike", stage, half, half + half), (((0, 0, 2, 2), (2, 0, 3, 2)),))
        self.check(True, ("alike", stage, half, half), (((0, 0, 2, 2), (2, 0, 3, 2)),))

    def test_ways_of_both_that_meet_in_part(self):
        stage = (("a", 5, 1), ("b", 5, 1))
        first = ("copy", "a", (0, 0, 5, 1), "b", 0, 0, "none", None)
        second = ("copy", "a", (0, 0, 5, 1), "b", 0, 0, "across", None)
        hidden = ("fill", "b", (0, 0, 5, 1), 3)
        one, other = (first, hidden), (second, hidden)
        self.check(True, ("alike", stage, one, other), (((0, 0, 5, 1),),) * 2)
        # Of a KEY that never comes, both ways come to the beginning.
        turn = ("recolour", "a", (0, 0, 5, 1), ((7, 8),))
        one, other = (turn, second, first[:7] + (7,)), (turn, first)
        self.check(False, ("alike", stage, one, other), (((0, 0, 5, 1),),) * 2)
        thirds = ((0, 0, 2, 1), (2, 0, 1, 1), (3, 0, 2, 1))
        self.check(True, ("alike", stage, one, other), (((0, 0, 5, 1),), thirds))
        self.check(True, ("alike", stage, one, other), (thirds, thirds))
        self.check(False, ("alike", stage, one, other), (thirds, ((0, 0, 5, 1),)))

    def test_cells_that_are_asked_again(self):
        # A cell that keeps its colour unless it is 7 shows a third one then, or 7 if that is 5: whether it is asked once
        # more or known by then, in both orders of the cells.
        for name, third in itertools.permutations("ac"):
            stage = (("a", 1, 1), ("b", 1, 1), ("c", 1, 1))
            kept = ("copy", name, (0, 0, 1, 1), "b", 0, 0, "none", None)
            shows = ("copy", third, (0, 0, 1, 1), name, 0, 0, "none", 5)
            again = ("copy", "b", (0, 0, 1, 1), name, 0, 0, "none", 7)
            fill = ("fill", name, (0, 0, 1, 1), 7)
            single = (((0, 0, 1, 1),),) * 3
            self.check(True, ("alike", stage, (kept, shows, again), (kept, fill, shows, again)), single)
            self.check(True, ("alike", stage, (kept, fill, shows, again), (kept, shows, again)), single)
            other = ("fill", name, (0, 0, 1, 1), 8)
            self.check(False, ("alike", stage, (kept, shows, again), (kept, other, shows, again)), single)

    def test_surfaces_more_and_less_and_in_another_order(self):
        claim = ("alike", SMALL, (FILL,), (FILL, FILL))
        covers = tuple(tuple(cover) for cover in covers_of(SMALL, (FILL,), (FILL, FILL)))
        self.check(True, claim, covers)
        for certificate in (
            covers[:1], covers[1:], covers + covers[:1], covers + ((),), covers[::-1], (), ((),) * 2, covers[0], (covers,),
            list(covers), tuple(map(list, covers)), None, covers[:1] + (None,), covers[:1] + (((0, 0, 3, 3), None),),
        ):
            self.check(False, claim, certificate)

    def test_what_is_no_rectangle_in_a_cover(self):
        claim, other = ("alike", ROW, (), ()), ((0, 0, 5, 1),)
        self.check(True, claim, (other,))
        for value in NOT_RECTS:
            for cover in ((value,), (value,) + other, other + (value,)):
                self.check(False, claim, (cover,))
        self.check(False, ("alike", (("a", 1, 1),), (), ()), (((0, 0, True, 1),),))
        self.check(False, ("alike", (("a", 1, 1),), (), ()), (((False, 0, 1, 1),),))
        self.check(True, ("alike", (("a", 1, 1),), (), ()), (((0, 0, 1, 1),),))

    def test_large_surfaces(self):
        for width in (BOUND, BOUND - 1):
            stage = (("a", width, BOUND), ("b", 1, BOUND))
            flip = ("copy", "a", (0, 0, width, BOUND), "a", 0, 0, "across", None)
            whole, column = ((0, 0, width, BOUND),), ((0, 0, 1, BOUND),)
            claim = ("alike", stage, (flip, flip), ())
            self.check(True, claim, (whole, column))
            halves = ((0, 0, width // 2, BOUND), (width // 2, 0, width - width // 2, BOUND))
            self.check(True, claim, (halves, column))
            self.check(True, claim, (halves, ((0, 0, 1, 5), (0, 5, 1, BOUND - 5))))
            for cover in (
                ((0, 0, width - 1, BOUND),), ((0, 0, width, BOUND - 1),), halves[:1], halves + halves[:1],
                ((0, 0, width // 2, BOUND), (width // 2 + 1, 0, width - width // 2 - 1, BOUND)),
                ((0, 0, width // 2 + 1, BOUND), halves[1]), ((0, 0, width // 2, BOUND), (width // 2, 1, *halves[1][2:])),
            ):
                self.check(False, claim, (cover, column))
            keyed = flip[:7] + (3,)
            claim = ("alike", stage, (keyed, keyed), (keyed, keyed))
            thirds = ((0, 0, width // 2, BOUND), (width // 2, 0, width % 2, BOUND), (width - width // 2, 0, width // 2, BOUND))
            self.check(True, claim, (thirds if width % 2 else halves, column))
            # Where there is no middle column, no cell is its own source.
            self.check(width % 2 == 0, claim, (halves, column))
            self.check(width % 2 == 0, claim, (whole, column))

    def test_rows_and_columns_at_the_edges_of_what_is_written(self):
        stage = (("a", BOUND, BOUND),)
        fill = ("fill", "a", (5, 7, BOUND - 11, 1), 4)
        claim = ("alike", stage, (fill, fill), (fill,))
        around = ((0, 0, BOUND, 7), (0, 8, BOUND, BOUND - 8))
        self.check(True, claim, (around + ((0, 7, 5, 1), (5, 7, BOUND - 11, 1), (BOUND - 6, 7, 6, 1)),))
        for row in (
            ((0, 7, 4, 1), (4, 7, BOUND - 10, 1), (BOUND - 6, 7, 6, 1)), ((0, 7, 5, 1), (5, 7, BOUND - 5, 1)),
            ((0, 7, 6, 1), (6, 7, BOUND - 12, 1), (BOUND - 6, 7, 6, 1)), ((0, 7, BOUND, 1),),
            ((0, 7, 5, 1), (5, 7, BOUND - 10, 1), (BOUND - 5, 7, 5, 1)),
        ):
            self.check(False, claim, (around + row,))
        self.check(True, claim, (around + ((0, 7, 5, 1), (5, 7, 1, 1), (6, 7, BOUND - 12, 1), (BOUND - 6, 7, 6, 1)),))


class StaysTest(CheckerTest):
    def test_any_rectangles_and_covers(self):
        source = random.Random(5)
        outcomes = []
        for _ in range(400):
            stage = source.choice((SMALL, ROW))
            strokes = Script(stage, slow.some_orders(source, stage, source.randint(0, 5))).strokes
            name, width, height = source.choice(stage)
            x, y = source.randrange(width), source.randrange(height)
            rect = (x, y, source.randint(1, width - x), source.randint(1, height - y))
            cover = slow_checker.split(source, rect, source.choice((0, 0, 1, 3, 20)))
            expected = slow_checker.covers_alike(strokes, (), name, points_of(rect), cover)
            claim = ("stays", stage, strokes, name, rect)
            self.check(expected, claim, cover)
            outcomes.append(expected)
            for spoilt in slow_checker.spoilt_covers(source, cover):
                self.check(False, claim, spoilt)
        self.assertGreater(min(outcomes.count(True), outcomes.count(False)), 80)

    def test_what_does_not_fit(self):
        cover = ((2, 0, 2, 2),)
        claim = ("stays", SMALL, (FILL,), "a", (2, 0, 2, 2))
        self.check(True, claim, cover)
        for certificate in (None, (cover,), list(cover), (), (cover[0], None), ((2, 0, 2, True),), cover[0], True):
            self.check(False, claim, certificate)
        for rect in ((2, 0, 0, 2), (2, 0, 2, 0), (2, 0, 3, 2), (2, 0, 2, 3), (-1, 0, 2, 2), (2, -1, 2, 2)) + NOT_RECTS:
            self.check(False, claim[:4] + (rect,), (rect,))
            self.check(False, claim[:4] + (rect,), ())
        self.check(False, ("stays", SMALL, (FILL,), "a", (1, 0, 3, 2)), ((1, 0, 3, 2),))
        self.check(False, ("stays", SMALL, (FILL,), "a", (1, 0, 1, 1)), ((1, 0, 1, 1),))
        for value in NOT_SURFACES:
            self.check(False, claim[:3] + (value,) + claim[4:], cover)

    def test_the_middle_column(self):
        for key in (None, 4):
            width = BOUND - 1
            stage = (("a", width, BOUND),)
            flip = (("copy", "a", (0, 0, width, BOUND), "a", 0, 0, "across", key),)
            for x, expected in ((width // 2, True), (width // 2 - 1, False), (width // 2 + 1, False), (0, False)):
                self.check(expected, ("stays", stage, flip, "a", (x, 0, 1, BOUND)), ((x, 0, 1, BOUND),))
            both = ((0, 0, width, BOUND),)
            self.check(key is None, ("stays", stage, flip + flip, "a", both[0]), both)


class UnlikeTest(CheckerTest):
    def test_any_pictures(self):
        source = random.Random(6)
        outcomes = []
        for _ in range(400):
            stage = source.choice((SMALL, ROW))
            one, other = [Script(stage, orders).strokes for orders in some_pair(source, stage, source.randint(1, 6))]
            cells = source.sample(slow.cells_of(stage), source.randint(0, 4))
            told = tuple(sorted((cell, source.choice(slow.COLOURS)) for cell in cells))
            colours = {cell: dict(told).get(cell, 0) for cell in slow.cells_of(stage)}
            cell = source.choice(list(colours))
            ends = [slow_forms.end_colour(strokes, cell, colours) for strokes in (one, other, ())]
            self.check(ends[0] != ends[1], ("unlike", stage, one, other, cell, told))
            self.check(ends[0] != ends[2], ("changes", stage, one, cell, told))
            outcomes += [ends[0] != ends[1], ends[0] != ends[2]]
            picture = Picture.of_cells(stage, told)
            self.assertEqual({each: picture[each] for each in colours}, colours)
        self.assertGreater(min(outcomes.count(True), outcomes.count(False)), 80)

    def test_large_surfaces(self):
        stage = (("a", BOUND, BOUND),)
        flip = (("copy", "a", (0, 0, BOUND, BOUND), "a", 0, 0, "both", None),)
        edge, far = ("a", 0, 0), ("a", BOUND - 1, BOUND - 1)
        self.check(True, ("unlike", stage, flip, (), edge, ((far, 4),)))
        self.check(False, ("unlike", stage, flip, (), edge, ((edge, 4), (far, 4))))
        self.check(False, ("unlike", stage, flip, (), edge, ((("a", BOUND - 1, BOUND - 2), 4),)))
        self.check(True, ("changes", stage, flip, far, ((edge, 4),)))
        self.check(False, ("changes", stage, flip + flip, far, ((edge, 4),)))

    def test_cells_that_do_not_fit(self):
        told = ((("a", 0, 0), 2), (("a", 1, 0), 3), (("b", 2, 2), 4))
        claims = [
            (("unlike", SMALL, (FILL,), (), ("a", 0, 0), told), 5), (("changes", SMALL, (FILL,), ("a", 0, 0), told), 4)]
        for claim, at in claims:
            self.check(True, claim)
            for certificate in ((), True, False, 0, "None", told, ((0, 0, 4, 2),)):
                self.check(False, claim, certificate)
            for value in (
                told[::-1], told + told[-1:], told[:1] + told, ((("a", 0, 0), 1), (("a", 0, 0), 2)), list(told), None, 5,
                told + (None,), told + ((("b", 2, 3), 4),), told + ((("c", 0, 0), 4),), told[:2] + ((("a", 3, 0), 4, 4),),
                told[:2] + (list(told[2]),), told[:2] + ((("b", 2, 2),),), told[:2] + ((("b", 2, True), 4),), dict(told),
            ) + tuple(told[:2] + ((("b", 2, 2), value),) for value in NOT_COLOURS):
                self.check(False, claim[:at] + (value,))
            for value in ODD_VALUES + ("a", (), ("a", 4, 0), ("a", 0, 2), ("c", 0, 0), ("a", False, 0), ["a", 0, 0]):
                self.check(False, claim[:at - 1] + (value,) + claim[at:])
            self.check(True, claim[:at] + ((),) if at == 4 else claim[:at] + (told[:2],))


class LossTest(CheckerTest):
    def test_beside_all_pairs_of_pictures(self):
        source = random.Random(7)
        outcomes = []
        for many in range(6):
            for _ in range(15):
                strokes = Script(TINY, slow.tight_orders(source, TINY, many, 0, (None,))).strokes
                ends = Ends(TINY, strokes, (0, 1), (50, 60), False)
                lost = ends.lost()
                for at, cell in enumerate(ends.cells):
                    self.check(cell not in lost, ("kept", TINY, strokes, cell))
                    for colour, other in itertools.product((0, 1, 50, 60), repeat=2):
                        expected = colour != other and all(
                            ends.ends[picture] == ends.ends[picture[:at] + (other,) + picture[at + 1:]]
                            for picture in ends.ends if picture[at] == colour)
                        self.check(expected, ("lost", TINY, strokes, cell, colour, other))
                        outcomes.append(expected)
        self.assertGreater(min(outcomes.count(True), outcomes.count(False)), 300)

    def test_many_recolourings(self):
        source = random.Random(8)
        stage = (("a", 1, 1), ("b", 2, 1))
        outcomes = []
        for _ in range(150):
            strokes = Script(stage, slow.some_orders(source, stage, 6, 0, ("recolour", "recolour", "copy"), (None,))).strokes
            lost = Ends(stage, strokes, slow.COLOURS, (50,), False).lost()
            for cell in slow.cells_of(stage):
                self.check(cell not in lost, ("kept", stage, strokes, cell))
                outcomes.append(cell in lost)
        self.assertGreater(min(outcomes.count(True), outcomes.count(False)), 50)

    def test_what_does_not_fit(self):
        lost, kept = ("lost", SMALL, (FILL,), ("a", 1, 0), 0, 5), ("kept", SMALL, (FILL,), ("a", 2, 0))
        self.check(True, lost)
        self.check(True, kept)
        self.check(False, ("lost", SMALL, (FILL,), ("a", 2, 0), 0, 5))
        self.check(False, ("kept", SMALL, (FILL,), ("a", 1, 0)))
        for claim in (lost, kept):
            for certificate in ((), True, False, 0, "None", ((0, 0, 4, 2),)):
                self.check(False, claim, certificate)
            for strokes in ((FILL, KEYED), (KEYED,), (KEYED, FILL)):
                self.check(False, claim[:2] + (strokes,) + claim[3:])
            self.check(False, claim + (0,))
            self.check(False, claim[:-1])
        for value in NOT_COLOURS:
            self.check(False, lost[:4] + (value, 5))
            self.check(False, lost[:5] + (value,))
            self.check(False, lost[:4] + (value, value))
        self.check(False, lost[:4] + (3, 3))
        self.check(False, lost[:4] + (1, True))
        self.check(True, lost[:4] + (10 ** 9, 0))

    def test_what_is_no_cell(self):
        for value in NOT_CELLS:
            self.check(False, ("kept", STAGE, (), value))
            self.check(False, ("lost", STAGE, (), value, 0, 1))
            self.check(False, ("changes", STAGE, (("fill", "a", (0, 0, 3, 5), 1),), value, ()))
        for value in (("a", 0, 0), ("a", 2, 4), ("ab", BOUND - 1, 0), ("b", BOUND - 1, BOUND - 1)):
            self.check(True, ("kept", STAGE, (), value))

    def test_a_keyed_copy_that_is_hidden(self):
        hidden = (KEYED, ("fill", "a", (0, 0, 4, 2), 5))
        self.check(False, ("lost", SMALL, hidden, ("a", 1, 0), 0, 5))
        self.check(True, ("lost", SMALL, (COPY,) + hidden[1:], ("a", 1, 0), 0, 5))

    def test_large_surfaces(self):
        stage = (("a", BOUND, BOUND), ("b", BOUND, BOUND))
        copy = ("copy", "a", (0, 0, BOUND, BOUND), "b", 0, 0, "both", None)
        strokes = (copy, ("recolour", "a", (0, 0, BOUND, 5), ((1, 2),)), ("recolour", "b", (0, 0, BOUND, 5), ((1, 2),)))
        for y, expected in ((0, False), (4, False), (5, False), (BOUND - 5, False), (BOUND - 1, False)):
            self.check(not expected, ("kept", stage, strokes, ("a", 7, y)))
        joined = (("recolour", "a", (0, 0, BOUND, 5), ((1, 2),)), copy)
        for y, lost in ((0, True), (4, True), (5, False), (BOUND - 1, False)):
            self.check(not lost, ("kept", stage, joined, ("a", 7, y)))
            self.check(lost, ("lost", stage, joined, ("a", 7, y), 2, 1))
            self.check(False, ("lost", stage, joined, ("a", 7, y), 3, 1))
            self.check(True, ("lost", stage, joined, ("b", 7, y), 3, 1))


CLAIMS = (
    (("alike", SMALL, (FILL, TURN), (FILL,)), (((0, 0, 2, 1), (2, 0, 2, 1), (0, 1, 4, 1)), ((0, 0, 3, 3),))),
    (("unlike", SMALL, (COPY, TURN), (), ("a", 1, 0), ((("a", 0, 0), 1),)), None),
    (("stays", SMALL, (COPY, KEYED), "b", (0, 0, 3, 3)), ((0, 0, 3, 3),)),
    (("changes", SMALL, (FILL,), ("a", 0, 0), ()), None),
    (("lost", SMALL, (TURN, FILL), ("a", 0, 0), 3, 4), None),
    (("kept", SMALL, (TURN, COPY), ("a", 3, 1)), None),
)


class FormsTest(CheckerTest):
    def test_the_claims(self):
        for claim, certificate in CLAIMS:
            self.check(True, claim, certificate)

    def test_any_values(self):
        values = ODD_VALUES + NOT_STAGES + NOT_CELLS + ("alike", ("alike",), CLAIMS, SMALL, 10 ** 39, -1, (FILL,))
        deep = ()
        for _ in range(28):
            deep = (deep,)
        for value in values + (deep, "x" * 20000, (10 ** 39,) * 4):
            self.check(False, value)
            self.check(False, value, value)
            for claim, certificate in CLAIMS:
                if not (value is None and certificate is None):
                    self.check(False, claim, value)
                self.check(False, value, certificate)
                for at in range(len(claim)):
                    # One stage, one number and one tuple may stand for others.
                    if value != claim[at] and (claim[0], at) not in EXCHANGED:
                        self.check(False, claim[:at] + (value,) + claim[at + 1:], certificate)
                    self.assertIsInstance(accepts(claim[:at] + (value,) + claim[at + 1:], certificate), bool)

    def test_the_words(self):
        for claim, certificate in CLAIMS:
            for word in ("Alike", "alike ", "", "same", b"alike", None, 0, ("alike",), "lose"):
                self.check(False, (word,) + claim[1:], certificate)
            for other, _ in CLAIMS:
                if other[0] != claim[0]:
                    self.check(False, (other[0],) + claim[1:], certificate)
            self.check(False, claim + (None,), certificate)
            self.check(False, claim[:-1], certificate)
            self.check(False, list(claim), certificate)
            self.check(False, (), certificate)
            self.check(False, claim[:1], certificate)

    def test_stages(self):
        for claim, certificate in CLAIMS:
            for value in NOT_STAGES:
                self.check(False, claim[:1] + (value,) + claim[2:], certificate)
        for value in NOT_STAGES:
            self.check(False, ("alike", value, (), ()), whole_covers(value))
            self.check(False, ("alike", value, (), ()), ())
        self.check(False, ("alike", (("a", 0, 1),), (), ()), ((),))
        self.check(False, ("alike", (("a", 1, 0),), (), ()), ((),))
        for stage in (
            (("a", 1, 1),), (("z", 2, 3),), (("az", 1, 1), ("b", BOUND, 1)), tuple((name, 1, 1) for name in "abcxyz"),
        ):
            self.check(True, ("alike", stage, (), ()), whole_covers(stage))
        one = (("a", 1, 1),)
        self.check(True, ("alike", one, (), ()), (((0, 0, 1, 1),),))
        for stage in ((("a", True, 1),), (("a", 1, True),)):
            self.check(False, ("alike", stage, (), ()), (((0, 0, 1, 1),),))
        six = tuple((name, BOUND, BOUND) for name in "abcdef")
        whole = ((0, 0, BOUND, BOUND),)
        self.check(True, ("alike", six, (), ()), (whole,) * 6)
        self.check(False, ("alike", six + (("g", BOUND, BOUND),), (), ()), (whole,) * 7)
        self.check(True, ("alike", (("abcdefgh", 1, 1),), (), ()), (((0, 0, 1, 1),),))
        self.check(False, ("alike", (("abcdefghi", 1, 1),), (), ()), (((0, 0, 1, 1),),))

    def check_strokes(self, expected, strokes, stage=SMALL):
        """Check claims for which it matters only if these are strokes."""
        single = tuple(slow_checker.singles(width, height) for _, width, height in stage)
        self.check(expected, ("alike", stage, strokes, strokes), single)
        fill = (("fill", "b", (0, 0, 1, 1), 1),)
        keep = ("stays", stage, strokes, "b", (2, 2, 1, 1))
        self.check(expected, keep, ((2, 2, 1, 1),))
        self.check(False, ("unlike", stage, strokes, fill, ("b", 2, 2), ()))
        if type(strokes) is tuple:
            self.check(expected, ("changes", stage, strokes[:15] + fill + strokes[15:], ("b", 0, 0), ()))

    def test_strokes(self):
        for strokes in ((), (FILL,), (TURN,), (COPY,), (KEYED,), (FILL, TURN, COPY, KEYED), (TURN[:3] + ((),),)):
            self.check_strokes(True, strokes)
            self.check_strokes(False, list(strokes))
        for stroke in (
            # Not cut, or without a cell.
            ("fill", "a", (0, 0, 5, 1), 1), ("fill", "a", (-1, 0, 2, 1), 1), ("fill", "a", (0, 0, 1, 3), 1),
            ("fill", "a", (0, 1, 1, 2), 1), ("fill", "a", (0, 0, 0, 1), 1), ("fill", "a", (0, 0, 1, 0), 1),
            ("fill", "a", (9, 9, 1, 1), 1), ("recolour", "a", (0, 0, 5, 1), ()), ("recolour", "a", (0, 0, 0, 0), ()),
            COPY[:2] + ((0, 0, 5, 1),) + COPY[3:], COPY[:2] + ((0, 0, 4, 1),) + COPY[3:], COPY[:4] + (3,) + COPY[5:],
            COPY[:4] + (-1,) + COPY[5:], COPY[:5] + (2,) + COPY[6:], COPY[:5] + (-1,) + COPY[6:],
            COPY[:2] + ((-1, 0, 2, 1),) + COPY[3:], COPY[:2] + ((0, 0, 0, 1),) + COPY[3:],
            # Frames and calls.
            ("within", (0, 0, 4, 2), (FILL,)), ("moved", 0, 0, (FILL,)), ("mirrored", None, None, (FILL,)),
            ("repeat", 1, (FILL,)), ("call", "p"), ("repeat", 0, ()), ("within", (0, 0, 4, 2), ()),
            # What is no order at all.
            (AlwaysEqual(),) + FILL[1:], (AlwaysEqual(),) + COPY[1:], COPY[:6] + (AlwaysEqual(), None),
            FILL[:1] + (AlwaysEqual(),) + FILL[2:], COPY[:1] + (AlwaysEqual(),) + COPY[2:],
            FILL[:3], FILL + (1,), TURN[:3], TURN + ((),), COPY[:7], COPY + (None,), list(FILL), FILL[0], (), None, (FILL,),
            ("Fill",) + FILL[1:], (b"fill",) + FILL[1:], (None,) + FILL[1:], ("copy",) + FILL[1:], ("fill",) + COPY[1:],
            ("recolour",) + FILL[1:], ("fill",) + TURN[1:], ("recolour",) + COPY[1:],
            COPY[:6] + ("Across", None), COPY[:6] + (None, None), COPY[:6] + ("", None), COPY[:6] + ("up", None),
            COPY[:6] + (("none",), None), TURN[:3] + ([(0, 1)],), TURN[:3] + (((0, 1, 2),),), TURN[:3] + ((0, 1),),
            TURN[:3] + (((1, 0), (0, 1)),), TURN[:3] + (((0, 1), (0, 2)),), TURN[:3] + (((0, 1), (1, 2), (2, 3)),),
            TURN[:3] + (((False, True),),), TURN[:3] + (((0, -1),),), TURN[:3] + (((10 ** 9 + 1, 0),),),
            ("fill", "a", (False, 0, 1, 1), 1), ("fill", "a", (0, False, 1, 1), 1), ("fill", "a", (0, 0, True, 1), 1),
            ("fill", "a", (0, 0, 1, True), 1), ("fill", "a", (0, 0, 1, 1), True), COPY[:4] + (True, 0, "none", None),
            COPY[:4] + (1, False, "none", None), COPY[:7] + (False,), ("fill", "a", [0, 0, 1, 1], 1),
        ):
            self.check_strokes(False, (stroke,))
            self.check_strokes(False, (FILL, stroke))
            self.check_strokes(False, (stroke, FILL))
        for value in NOT_COLOURS:
            self.check_strokes(False, (FILL[:3] + (value,),))
            if value is not None:
                self.check_strokes(False, (COPY[:7] + (value,),))
        for value in NOT_SURFACES:
            if value not in ("a", "b"):
                self.check_strokes(False, (FILL[:1] + (value,) + FILL[2:],))
                self.check_strokes(False, (COPY[:1] + (value,) + COPY[2:],))
                self.check_strokes(False, (COPY[:3] + (value,) + COPY[4:],))
        for value in NOT_RECTS:
            self.check_strokes(False, (FILL[:2] + (value,) + FILL[3:],))

    def test_too_many_of_one_sort(self):
        single = (((0, 0, 4, 2),), ((0, 0, 3, 3),))
        for stroke, most in ((FILL, 16), (COPY, 4), (KEYED, 2), (TURN, 4)):
            for many in range(1, 18):
                strokes = (stroke,) * many
                self.check(many <= most, ("stays", SMALL, strokes, "b", (0, 0, 3, 3)), ((0, 0, 3, 3),))
                self.check(many <= most, ("stays", SMALL, (FILL,) * (16 - many) + strokes, "b", (1, 0, 2, 3)), ((1, 0, 2, 3),))
        both = (KEYED,) * 2 + (COPY,) * 2 + (TURN,) * 4 + (FILL,) * 8
        for strokes, expected in (
            (both, True), (both + (FILL,), False), (both[:-1] + (COPY,), False), (both[:-1] + (TURN,), False),
            (both[1:] + (COPY,), True),
            (both[2:] + (KEYED,) * 2, True), (both[2:] + (KEYED,), True), (both[:2] + both[3:] + (KEYED,), False),
        ):
            self.check(expected, ("stays", SMALL, strokes, "b", (0, 0, 3, 3)), ((0, 0, 3, 3),))
        self.check(False, ("alike", SMALL, (KEYED,) * 3, (KEYED,)), single)

    def test_truths_in_place_of_numbers(self):
        for claim, certificate in CLAIMS:
            for at in range(1, len(claim)):
                for changed in with_truths(claim[at]):
                    self.assertEqual(changed, claim[at])
                    self.check(False, claim[:at] + (changed,) + claim[at + 1:], certificate)
            for changed in with_truths(certificate):
                self.check(False, claim, changed)

    def test_values_of_derived_classes(self):
        class Sly(int):
            def __eq__(self, other):
                return True

            __hash__ = int.__hash__

        class Odd(tuple):
            def __len__(self):
                raise AssertionError

        class Word(str):
            def __eq__(self, other):
                raise AssertionError

            __hash__ = str.__hash__

        self.check(False, ("lost", SMALL, (), ("a", 0, 0), Sly(3), 4))
        self.check(False, ("changes", SMALL, (("fill", "a", (0, 0, 1, 1), Sly(0)),), ("a", 0, 0), ()))
        for claim, certificate in CLAIMS:
            self.check(False, Odd(claim), certificate)
            self.check(False, (Word(claim[0]),) + claim[1:], certificate)
            self.check(False, claim[:1] + (Odd(SMALL),) + claim[2:], certificate)
            if certificate is not None:
                self.check(False, claim, Odd(certificate))

    def test_arguments_are_not_changed(self):
        for claim, certificate in CLAIMS:
            before = repr((claim, certificate))
            self.assertEqual([accepts(claim, certificate) for _ in range(3)], [True] * 3)
            self.assertEqual(repr((claim, certificate)), before)


def whole_covers(stage):
    """A cover of each surface, for what may be no stage."""
    if not isinstance(stage, tuple) or not all(isinstance(surface, tuple) and len(surface) == 3 for surface in stage):
        return ()
    return tuple(((0, 0, *surface[1:]),) for surface in stage)


# Where another value of the right kind may stand without harm.
EXCHANGED = {
    ("unlike", 4), ("changes", 3), ("lost", 3), ("kept", 3), ("lost", 4), ("lost", 5), ("unlike", 5), ("changes", 4),
    ("alike", 2), ("alike", 3), ("unlike", 2), ("unlike", 3), ("stays", 2), ("changes", 2), ("lost", 2), ("kept", 2),
    ("stays", 1), ("kept", 1), ("stays", 4), ("stays", 3),
}


def with_truths(value):
    """All values that come of one by putting True for a 1 or False for a 0 at one place in it."""
    if type(value) is int and value in (0, 1):
        return [bool(value)]
    if type(value) is not tuple:
        return []
    return [
        value[:at] + (changed,) + value[at + 1:] for at, each in enumerate(value) for changed in with_truths(each)
    ]


class ImportsTest(unittest.TestCase):
    folder = pathlib.Path(checker.__file__).parent

    def imports(self, name):
        tree = ast.parse((self.folder / f"{name}.py").read_text(encoding="utf-8"))
        modules = [node.module for node in tree.body if isinstance(node, ast.ImportFrom)]
        return {module.split(".")[1] for module in modules if module.startswith("allscreens.")}

    def test_the_checker_shares_no_code(self):
        own = {"checker"}
        while True:
            more = set().union(*[self.imports(name) for name in own]) - {"limits", "errors"}
            if more <= own:
                break
            own |= more
        others = {path.stem for path in self.folder.glob("*.py")} - own
        for name in others:
            self.assertEqual(self.imports(name) & own, set(), name)
        self.assertNotIn("scripts", own)
        self.assertEqual(checker.accepts.__module__, "allscreens.checker")


if __name__ == "__main__":
    unittest.main()
