"""What the document promises over the whole program."""

import itertools
import random
import unittest

import slow
from allscreens.bands import bands
from allscreens.board import NotedGuardedBoard
from allscreens.certificates import certify_alike, certify_cell, certify_loss
from allscreens.checker import accepts
from allscreens.comparing import alike, idle, parting
from allscreens.console import Console
from allscreens.damage import damage, needs
from allscreens.effects import Effect
from allscreens.forms import same_value, value_of
from allscreens.painting import paint, probe, trace
from allscreens.passes import optimized
from allscreens.pictures import Picture
from allscreens.regions import Region
from allscreens.scripts import Script
from allscreens.undoing import barred, beginning, loss, restored
from helpers import BOUND
from test_comparing import some_pair
from test_painting import some_picture

SMALL = (("a", 4, 2), ("b", 3, 3))


def some_script(source, stage, many=5, keys=(None, 0, 1)):
    """A script with frames, parts and calls that is within the limits."""
    while True:
        part = slow.some_orders(source, stage, 1, 1, keys=keys)
        orders = slow.some_orders(source, stage, many - 1, 3, keys=keys) + (("moved", 1, 0, (("call", "p"),)),)
        if slow.in_limits(stage, orders, (("p", part),)):
            return Script(stage, orders, parts=(("p", part),))


def told_in_bands(script, picture, height):
    """The picture that is told in bands."""
    patches = []
    for surface, _, _ in script.stage:
        for _, areas in bands(script, picture, surface, height):
            patches += [(surface, rect, colour) for colour, region in areas for rect in region.rects]
    return Picture(script.stage, *patches, ground=10 ** 9)


class OneResultTest(unittest.TestCase):
    def test_all_ways_to_one_picture(self):
        for seed in range(60):
            source = random.Random(seed)
            script = Script.read(SMALL, str(some_script(source, SMALL)))
            picture, colours = some_picture(source, SMALL)
            end = paint(script, picture)
            expected = slow.painted(SMALL, script.orders, colours, script.parts)
            self.assertEqual(end, Picture.of_cells(SMALL, tuple(expected.items())))
            effect = Effect(script)
            self.assertEqual(effect(picture), end)
            for height in (1, 2, 3):
                self.assertEqual(told_in_bands(script, picture, height), end)
            for cell in slow.cells_of(SMALL):
                self.assertEqual(probe(script, picture, cell), end[cell])
                self.assertEqual(value_of(picture, effect.at(cell)), end[cell])
                indexes, origin = trace(script, picture, cell)
                self.assertTrue(origin is None or indexes or picture[cell] == end[cell])
            self.check_boards(source, script, picture, end)

    def check_boards(self, source, script, picture, end):
        """Check a board and a console to whose orders one comes by any edits."""
        board, console = NotedGuardedBoard(Picture(SMALL, ground=3)), Console(SMALL)
        for at, stroke in enumerate(script.strokes):
            board.insert_order(at, stroke)
            console.say(f"add {Script(SMALL, (stroke,))}")
        if len(board):
            at, place = source.randrange(len(board)), source.randrange(len(board))
            board.move_order(at, place)
            board.tried((("remove", place),), lambda board: board.shown)
            board.move_order(place, at)
            board.remove_order(at)
            board.undo()
        board.base = picture
        self.assertEqual(board.shown, end)
        self.assertEqual(paint(board.script, picture), end)
        shown = paint(script, Picture(SMALL))
        for cell in slow.cells_of(SMALL):
            self.assertEqual(console.say(f"colour {cell[0]} {cell[1]} {cell[2]}"), str(shown[cell]))

    def test_large_surfaces(self):
        stage = slow.scaled_stage(SMALL)
        for seed in range(20):
            source = random.Random(seed)
            script = Script(stage, slow.scaled_orders(slow.some_orders(source, SMALL, 6)))
            patches = [(source.choice("ab"), slow.scaled_rect(slow.near_rect(source)), source.randint(0, 7)) for _ in range(6)]
            picture = Picture(stage, *patches)
            end = paint(script, picture)
            self.assertEqual(Effect(script)(picture), end)
            self.assertEqual(told_in_bands(script, picture, slow.SCALE // 3), end)
            self.assertEqual(Script.read(stage, str(script)), script)
            for cell in slow.cells_of(SMALL):
                for corner in slow.corners(cell):
                    self.assertEqual(probe(script, picture, corner), end[corner])
                    self.assertEqual(value_of(picture, Effect(script).at(corner)), end[corner])


class DecidedTest(unittest.TestCase):
    def test_alike_exactly_if_there_is_no_parting(self):
        source = random.Random(1)
        outcomes = []
        for many in range(1, 7):
            for _ in range(20):
                one, other = [Script(SMALL, orders) for orders in some_pair(source, SMALL, many)]
                found = parting(one, other)
                outcomes.append(found is None)
                self.assertIs(alike(one, other), found is None)
                same = [
                    same_value(SMALL, Effect(one).at(cell), Effect(other).at(cell)) for cell in slow.cells_of(SMALL)]
                self.assertIs(all(same), found is None)
                self.assertEqual(certify_alike(one, other)[0][0], "alike" if found is None else "unlike")
                board = NotedGuardedBoard(Picture(SMALL))
                board.do_all(tuple(("insert", at, stroke) for at, stroke in enumerate(one.strokes)))
                whole = ("within", (0, 0, 9, 9), other.strokes)
                edits = (("remove", 0),) * len(one) + (("insert", 0, whole),)
                self.assertIs(alike(board.tried(edits, lambda board: board.script), other), True)
        self.assertGreater(min(outcomes.count(True), outcomes.count(False)), 20)

    def test_passes_keep_what_a_script_does(self):
        source = random.Random(2)
        for _ in range(40):
            script = some_script(source, SMALL)
            found = optimized(script, "copies", "idle", "fills", "idle")
            self.assertIsNone(parting(script, found))
            self.assertEqual(idle(found), ())
            for surface, _, _ in SMALL:
                self.assertEqual(damage(found, surface), damage(script, surface))
                self.assertEqual(needs(found, surface), needs(script, surface))


class CheckerTest(unittest.TestCase):
    def check(self, script, cells, cover):
        """Check what damage, needs and loss tell beside the claims that the checker accepts."""
        stage, strokes = script.stage, script.strokes
        for cell in cells:
            surface, *point = cell
            claim, certificate = certify_cell(script, cell)
            self.assertIs(accepts(claim, certificate), True)
            self.assertIs(tuple(point) in damage(script, surface), claim[0] == "changes")
            stays = ("stays", stage, strokes, surface, (*point, 1, 1))
            self.assertIs(accepts(stays, ((*point, 1, 1),)), claim[0] == "stays")
            if not any(stroke[0] == "copy" and stroke[7] is not None for stroke in strokes):
                claim, certificate = certify_loss(script, cell)
                self.assertIs(accepts(claim, certificate), True)
                self.assertIs(tuple(point) in loss(script, surface), claim[0] == "lost")
                self.assertIs(accepts(("kept", stage, strokes, cell), None), claim[0] == "kept")
                if tuple(point) not in needs(script, surface):
                    self.assertIs(accepts(("lost", stage, strokes, cell, 5, 6), None), True)
        for surface, width, height in stage:
            for rect in (Region((0, 0, width, height)) - damage(script, surface)).rects:
                # Cells that stay are so one by one, whatever the rectangle; but it may not be even.
                self.assertIs(accepts(("stays", stage, strokes, surface, rect), cover(rect)), True)

    def test_small_surfaces(self):
        for seed in range(60):
            source = random.Random(seed)
            script = some_script(source, SMALL, 5, source.choice(((None,), (None, 0, 1))))
            self.check(script, slow.cells_of(SMALL), lambda rect: tuple(
                (rect[0] + x, rect[1] + y, 1, 1) for x, y in itertools.product(range(rect[2]), range(rect[3]))))

    def test_large_surfaces(self):
        stage = (("a", BOUND, BOUND), ("b", BOUND, BOUND))
        script = Script(stage, (
            ("fill", "a", (3, 4, 5, BOUND), 7), ("copy", "b", (0, 0, BOUND, 9), "b", 0, 0, "across", None)))
        cells = [("a", x, y) for x in (0, 2, 3, 7, 8, BOUND - 1) for y in (0, 3, 4, BOUND - 1)]
        cells += [("b", x, y) for x in (0, BOUND // 2, BOUND - 1) for y in (0, 8, 9, BOUND - 1)]
        self.check(script, cells, lambda rect: (rect,))


class SavingTest(unittest.TestCase):
    def test_the_beginning_comes_back(self):
        for seed in range(60):
            source = random.Random(seed)
            script = some_script(source, SMALL, 5, (None,))
            picture, _ = some_picture(source, SMALL)
            end = paint(script, picture)
            saved = Picture(SMALL, ground=9)
            for surface, _, _ in SMALL:
                for rect in loss(script, surface).rects:
                    for colour, region in picture.areas(surface):
                        saved = saved.patched(*[(surface, part, colour) for part in (region & Region(rect)).rects])
            self.assertEqual(restored(script, end, saved), picture)
            self.assertIsNone(barred(script, end))
            self.assertEqual(paint(script, beginning(script, end)), end)


class CallsTest(unittest.TestCase):
    def told(self, script, other, picture):
        """The results of calls of all kinds."""
        surface, cell = "a", ("b", 1, 1)
        board = NotedGuardedBoard(picture)
        found = [
            paint(script, picture), probe(script, picture, cell), trace(script, picture, cell), damage(script, surface),
            needs(script, surface), alike(script, other), parting(script, other), idle(script), Effect(script).at(cell),
            optimized(script, "idle", "fills", "copies"), list(bands(script, picture, surface, 1)),
            certify_alike(script, other), certify_cell(script, cell),
            board.do_all(tuple(("insert", 0, stroke) for stroke in script.strokes[:3])), board.notes(), board.shown,
        ]
        if not any(stroke[0] == "copy" and stroke[7] is not None for stroke in script.strokes):
            found += [
                loss(script, surface), beginning(script, picture), barred(script, picture), certify_loss(script, cell)]
        return found

    def test_equal_calls_return_equal_results_whatever_was_asked_before(self):
        source = random.Random(4)
        scripts = [(some_script(source, SMALL, 4, keys), some_script(source, SMALL, 4)) for keys in ((None,), (0, 1)) * 6]
        picture, colours = some_picture(source, SMALL)
        texts = [(str(one), str(other)) for one, other in scripts]
        first = [self.told(one, other, picture) for one, other in scripts]
        again = [self.told(one, other, picture) for one, other in reversed(scripts)][::-1]
        new = [
            self.told(Script.read(SMALL, one), Script.read(SMALL, other), Picture.of_cells(SMALL, tuple(colours.items())))
            for one, other in texts]
        self.assertEqual(again, first)
        self.assertEqual(new, first)
        self.assertEqual([(str(one), str(other)) for one, other in scripts], texts)
        self.assertEqual(picture, Picture.of_cells(SMALL, tuple(colours.items())))


if __name__ == "__main__":
    unittest.main()
