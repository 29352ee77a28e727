import random
import unittest

import slow
from allscreens import console as console_module
from allscreens.board import Board
from allscreens.comparing import idle
from allscreens.console import Console
from allscreens.damage import damage, needs
from allscreens.errors import (
    InvalidCell, InvalidLine, InvalidNumber, InvalidOrder, InvalidStage, InvalidSurface, NothingToUndo, TooManyCopies,
    TooManyEdits, TooManyKeys, TooManyOrders, TooManyRecolours,
)
from allscreens.pictures import Picture
from allscreens.scripts import Script
from helpers import BOUND, NOT_STAGES, ODD_VALUES, check_raises, check_raises_equal, raised_by, run_example

EXAMPLE = """
>>> from allscreens.console import Console
>>> console = Console((("a", 5, 1), ("b", 5, 1)))
>>> first, second = console.say("add fill a 1 0 2 1 5"), console.say("add copy a 0 0 5 1 to b 0 0 across")
>>> [first, second, console.say("colour b 3 0"), console.say("needs b"), console.say("damage b"), console.say("undo"), console.say("text")]
['a 1 0 2 1', 'b 0 0 5 1', '5', '-', '0 0 5 1', 'b 0 0 5 1', 'fill a 1 0 2 1 5']
"""

SMALL = (("a", 4, 2), ("b", 3, 3))
ASKS = ("idle", "orders", "text", "damage a", "damage b", "needs a", "needs b", "colour a 0 0", "colour b 2 2")


def told(console):
    return [console.say(line) for line in ASKS]


def rects_told(region):
    return ", ".join(" ".join(str(number) for number in rect) for rect in region.rects)


def changes_told(changes):
    return "; ".join(f"{name} {rects_told(region)}" for name, region in changes) or "-"


class AnswersTest(unittest.TestCase):
    def check_answers(self, console, board):
        """Check what is asked beside the answers of a board with the same edits."""
        for name, width, height in SMALL:
            self.assertEqual(console.say(f"damage {name}"), rects_told(damage(board.script, name)) or "-")
            self.assertEqual(console.say(f"needs {name}"), rects_told(needs(board.script, name)) or "-")
            for x, y in ((0, 0), (width - 1, height - 1), (1, 1)):
                self.assertEqual(console.say(f"colour {name} {x} {y}"), str(board.shown[name, x, y]))
        self.assertEqual(console.say("idle"), " ".join(str(index) for index in idle(board.script)) or "-")
        self.assertEqual(console.say("orders"), str(len(board.orders)))
        self.assertEqual(console.say("text"), str(board.script).replace("\n", "; "))

    def test_beside_a_board(self):
        for seed in range(25):
            source = random.Random(seed)
            console, board = Console(SMALL), Board(Picture(SMALL))
            self.check_answers(console, board)
            for _ in range(12):
                choice = source.randrange(4)
                if choice == 0 and len(board):
                    index = source.randrange(len(board))
                    self.assertEqual(console.say(f"remove {index}"), changes_told(board.remove_order(index)))
                elif choice == 1 and board.log:
                    self.assertEqual(console.say("undo"), changes_told(board.undo()))
                else:
                    order = slow.some_order(source, SMALL)
                    if not slow.in_limits(SMALL, (*board.orders, order)):
                        continue
                    line = str(Script(SMALL, (order,)))
                    self.assertEqual(console.say(f"add {line}"), changes_told(board.insert_order(len(board), order)))
                self.check_answers(console, board)

    def test_at_the_beginning(self):
        console = Console(SMALL)
        self.assertEqual(told(console), ["-", "0", "", "-", "-", "0 0 4 2", "0 0 3 3", "0", "0"])
        self.assertEqual(told(Console(stage=SMALL)), told(console))

    def test_what_an_answer_looks_like(self):
        console = Console(SMALL)
        self.assertEqual(console.say("add fill a 9 9 1 1 5"), "-")
        self.assertEqual(console.say("add recolour a 0 0 1 1"), "-")
        self.assertEqual(console.say("add fill a 0 0 1 2 1000000000"), "a 0 0 1 2")
        self.assertEqual(console.say("add fill b -3 -3 4 5 3"), "b 0 0 1 2")
        self.assertEqual(console.say("add recolour b 1 0 2 1 0=3 3=0"), "b 1 0 2 1")
        self.assertEqual(console.say("add copy b 0 0 2 2 to a 2 0 both key 3"), "a 2 0 1 2")
        self.assertEqual(console.say("text").split("; "), [
            "fill a 9 9 1 1 5", "recolour a 0 0 1 1", "fill a 0 0 1 2 1000000000", "fill b -3 -3 4 5 3",
            "recolour b 1 0 2 1 0=3 3=0", "copy b 0 0 2 2 to a 2 0 both key 3"])
        self.assertEqual(console.say("damage a"), "0 0 1 2, 2 0 1 2")
        self.assertEqual(console.say("damage b"), "0 0 3 1, 0 1 1 1")
        self.assertEqual(console.say("idle"), "0")
        self.assertEqual(console.say("orders"), "6")
        self.assertEqual(console.say("colour a 0 1"), "1000000000")
        self.assertEqual(console.say("remove 3"), "a 3 0 1 2; b 0 0 1 2")
        self.assertEqual(console.say("undo"), "a 3 0 1 2; b 0 0 1 2")
        self.assertEqual(console.say(line="undo"), "a 2 0 1 2")
        for _ in range(5):
            console.say("undo")
        self.assertEqual(told(console), told(Console(SMALL)))

    def test_large_surfaces(self):
        console = Console((("a", BOUND, BOUND),))
        self.assertEqual(console.say(f"add copy a 0 0 {BOUND} {BOUND} to a 1 0 none"), f"a 1 0 {BOUND - 1} {BOUND}")
        self.assertEqual(console.say(f"add fill a {BOUND - 1} {BOUND - 1} 9 9 7"), f"a {BOUND - 1} {BOUND - 1} 1 1")
        self.assertEqual(console.say(f"colour a {BOUND - 1} {BOUND - 1}"), "7")
        self.assertEqual(console.say("needs a"), f"0 0 {BOUND - 1} {BOUND - 1}, 0 {BOUND - 1} {BOUND - 2} 1")

    def test_two_consoles_by_turns(self):
        one, other = Console(SMALL), Console(SMALL)
        one.say("add fill a 0 0 1 1 5")
        self.assertEqual((one.say("orders"), other.say("orders")), ("1", "0"))
        other.say("add fill b 0 0 1 1 6")
        other.say("add fill b 0 0 1 1 7")
        self.assertEqual((one.say("text"), other.say("remove 0")), ("fill a 0 0 1 1 5", "-"))
        one.say("undo")
        self.assertEqual((one.say("text"), other.say("text")), ("", "fill b 0 0 1 1 7"))
        self.assertEqual(told(one), told(Console(SMALL)))


LINES = (
    "add fill a 0 0 1 1 5", "add recolour a 0 0 1 1", "add recolour a 0 0 1 1 1=2", "add recolour a 0 0 1 1 1=2 2=1",
    "add copy a 0 0 1 1 to b 0 0 none", "add copy a 0 0 1 1 to b 0 0 both key 5", "remove 0", "undo", "colour a 0 0",
    "damage a", "needs b", "idle", "orders", "text",
)


class LinesTest(unittest.TestCase):
    def console(self):
        console = Console(SMALL)
        console.say("add fill a 1 1 2 1 5")
        console.say("add fill b 0 0 1 2 6")
        return console

    def check_invalid(self, console, line):
        before = told(console)
        check_raises(self, InvalidLine, line, console.say, line)
        check_raises(self, InvalidLine, line, console.say, line=line)
        self.assertEqual(told(console), before)

    def test_each_form(self):
        for line in LINES:
            self.assertIs(type(self.console().say(line)), str)

    def test_what_has_no_form(self):
        console = self.console()
        for line in LINES:
            words = line.split(" ")
            for at in range(len(words) + 1):
                self.check_invalid(console, " ".join(words[:at] + ["x"] + words[at:]))
                self.check_invalid(console, " ".join(words[:at] + [""] + words[at:]))
            for at in range(len(words)):
                shorter = " ".join(words[:at] + words[at + 1:])
                if shorter not in ("add recolour a 0 0 1 1", "add recolour a 0 0 1 1 2=1", "add recolour a 0 0 1 1 1=2"):
                    self.check_invalid(console, shorter)
                for word in ("", " ", "X", "-", "--1", "1.5", "+1", "01", "-0", "1e5", "a1", "A", "\n", "1_0"):
                    self.check_invalid(console, " ".join(words[:at] + [word] + words[at + 1:]))
            for changed in (
                " " + line, line + " ", line + "\n", "\n" + line, line.replace(" ", "  ", 1) + " ", line.upper(), line + ";",
                line + "\n" + line, line.replace(" ", "\t") + "\t", line + " 0", line + " a",
            ):
                self.check_invalid(console, changed)
            self.check_invalid(console, line.encode())
            self.check_invalid(console, (line,))
            self.check_invalid(console, line.split(" "))

    def test_other_values(self):
        console = self.console()
        for value in ODD_VALUES + (
            0, 1, (), "add", "add ", "fill a 0 0 1 1 5", "add within 0 0 1 1", "add end", "add call p", "add repeat 2",
            "add moved 0 0", "add mirrored 0 -", "add def p", "remove", "remove a", "remove 0 0", "remove -", "colour a 0",
            "colour 0 0", "colour a 0 0 0", "colour 0 0 a", "colour A 0 0", "colour abcdefghi 0 0", "damage", "damage a b",
            "damage 1", "damage abcdefghi", "needs", "needs A", "idle 0", "orders a", "text 1", "undo 1", "help", "move 0 0",
            "insert 0", "add fill a 0 0 1 1", "add fill 5 0 0 1 1 5", "add copy a 0 0 1 1 to b 0 0",
            "add copy a 0 0 1 1 to b 0 0 up", "add copy a 0 0 1 1 to b 0 0 none key", "add copy a 0 0 1 1 to b 0 0 none 5",
            "add copy a 0 0 1 1 b 0 0 none", "add recolour a 0 0 1 1 1=", "add recolour a 0 0 1 1 =1",
            "add recolour a 0 0 1 1 1=2=3", "add recolour a 0 0 1 1 1 = 2", "add recolour a 0 0 1", "add  fill a 0 0 1 1 5",
        ):
            self.check_invalid(console, value)

    def test_numbers_of_15_and_16_digits(self):
        console = self.console()
        great, greater = "9" * 15, "1" + "0" * 15
        check_raises_equal(self, InvalidNumber, int(great), console.say, f"remove {great}")
        check_raises_equal(self, InvalidNumber, -int(great), console.say, f"remove -{great}")
        check_raises_equal(self, InvalidCell, ("a", int(great), -int(great)), console.say, f"colour a {great} -{great}")
        for words in ("remove {}", "colour a {} 0", "colour a 0 {}"):
            for number in (greater, "-" + greater, "0" * 16, "0" + great):
                self.check_invalid(console, words.format(number))
        for words in (
            "fill a {} 0 1 1 5", "fill a 0 0 1 {} 5", "fill a 0 0 1 1 {}", "recolour a 0 {} 1 1", "recolour a 0 0 1 1 {}=1",
            "recolour a 0 0 1 1 1={}", "copy a 0 0 1 1 to b {} 0 none", "copy a 0 0 1 1 to b 0 0 none key {}",
        ):
            check_raises_equal(self, InvalidOrder, (0,), console.say, "add " + words.format(great))
            check_raises_equal(self, InvalidOrder, (0,), console.say, "add " + words.format("-" + great))
            for number in (greater, "-" + greater, "0" + great, "00", "-0"):
                self.check_invalid(console, "add " + words.format(number))
        self.assertEqual(console.say("orders"), "2")

    def test_integers_that_may_be_negative_or_too_great(self):
        console = self.console()
        self.assertEqual(console.say("add fill a -1 -1 2 2 0"), "a 0 0 1 1")
        self.assertEqual(console.say(f"add fill a {-BOUND} 0 {BOUND} 1 0"), "-")
        check_raises_equal(self, InvalidOrder, (0,), console.say, f"add fill a {-BOUND - 1} 0 1 1 0")
        check_raises_equal(self, InvalidOrder, (0,), console.say, "add fill a 0 0 -1 1 0")
        check_raises_equal(self, InvalidOrder, (0,), console.say, "add fill a 0 0 1 1 -5")


class ErrorsTest(unittest.TestCase):
    def test_stages(self):
        for value in NOT_STAGES:
            check_raises(self, InvalidStage, value, Console, value)
            check_raises(self, InvalidStage, value, Console, stage=value)

    def check_fails(self, console, error, value, line):
        before = told(console)
        check_raises_equal(self, error, value, console.say, line)
        self.assertEqual(told(console), before)

    def test_errors_of_the_methods(self):
        console = Console(SMALL)
        self.assertEqual(vars(raised_by(self, NothingToUndo, console.say, "undo")), {})
        self.check_fails(console, InvalidNumber, 0, "remove 0")
        console.say("add fill a 0 0 1 1 5")
        for line, error, value in (
            ("remove 1", InvalidNumber, 1), ("remove -1", InvalidNumber, -1), ("colour a 4 0", InvalidCell, ("a", 4, 0)),
            ("colour a 0 -1", InvalidCell, ("a", 0, -1)), ("colour c 0 0", InvalidCell, ("c", 0, 0)),
            ("damage c", InvalidSurface, "c"), ("needs ab", InvalidSurface, "ab"), ("add fill c 0 0 1 1 5", InvalidOrder, (0,)),
            ("add fill a 0 0 1 1 1000000001", InvalidOrder, (0,)), ("add recolour a 0 0 1 1 2=1 1=2", InvalidOrder, (0,)),
            ("add recolour a 0 0 1 1 1=2 2=3 3=4", InvalidOrder, (0,)), ("add recolour a 0 0 1 1 1=2 1=3", InvalidOrder, (0,)),
            ("add copy a 0 0 1 1 to c 0 0 none", InvalidOrder, (0,)), ("add copy c 0 0 1 1 to a 0 0 none", InvalidOrder, (0,)),
            ("add copy a 0 0 1 1 to b 0 0 none key -1", InvalidOrder, (0,)),
        ):
            self.check_fails(console, error, value, line)
        self.assertEqual(console.say("undo"), "a 0 0 1 1")

    def test_the_limits(self):
        for line, most, error in (
            ("add fill a 0 0 1 1 5", 16, TooManyOrders), ("add copy a 0 0 1 1 to a 1 0 none", 4, TooManyCopies),
            ("add copy a 0 0 1 1 to a 1 0 none key 3", 2, TooManyKeys), ("add recolour a 0 0 1 1 1=2", 4, TooManyRecolours),
        ):
            console = Console(SMALL)
            for _ in range(most):
                console.say(line)
            self.check_fails(console, error, most + 1, line)
        console = Console(SMALL)
        for _ in range(50):
            console.say("add fill a 0 0 1 1 5")
            console.say("remove 0")
        for line in ("add fill a 0 0 1 1 5", "add fill a 9 9 1 1 5"):
            self.check_fails(console, TooManyEdits, 100, line)
        self.check_fails(console, InvalidNumber, 0, "remove 0")
        console.say("undo")
        console.say("remove 0")

    def test_the_interface_is_defined_here(self):
        self.assertEqual(console_module.Console.__module__, "allscreens.console")
        self.assertIn("say", vars(Console))

    def test_the_example_of_the_document(self):
        run_example(self, EXAMPLE)


if __name__ == "__main__":
    unittest.main()
