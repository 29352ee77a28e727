import random
import unittest

import slow
from allscreens.errors import InvalidOrder, InvalidText, TooManyCopies, TooManyKeys, TooManyOrders, TooManyRecolours
from allscreens.scripts import Script
from helpers import BOUND, ODD_VALUES, check_raises_equal

STAGE = (("a", 4, 3), ("bcdefghi", 3, 5), ("end", 2, 2))

# Each kind of line, and the order that it stands for.
LINES = (
    ("fill a 0 0 1 1 5", ("fill", "a", (0, 0, 1, 1), 5)),
    ("fill bcdefghi -1 -20 300 4000 0", ("fill", "bcdefghi", (-1, -20, 300, 4000), 0)),
    ("fill a -1000000000000 1000000000000 0 1000000000000 1000000000",
     ("fill", "a", (-BOUND, BOUND, 0, BOUND), 10 ** 9)),
    ("recolour a 0 0 1 1", ("recolour", "a", (0, 0, 1, 1), ())),
    ("recolour a 0 -1 2 3 4=5", ("recolour", "a", (0, -1, 2, 3), ((4, 5),))),
    ("recolour end 0 -1 2 3 0=10 7=0", ("recolour", "end", (0, -1, 2, 3), ((0, 10), (7, 0)))),
    ("copy a 0 1 2 3 to a 4 5 none", ("copy", "a", (0, 1, 2, 3), "a", 4, 5, "none", None)),
    ("copy a 0 1 2 3 to bcdefghi -4 -5 across", ("copy", "a", (0, 1, 2, 3), "bcdefghi", -4, -5, "across", None)),
    ("copy end -10 1 2 3 to a 4 5 down", ("copy", "end", (-10, 1, 2, 3), "a", 4, 5, "down", None)),
    ("copy a 0 1 2 3 to end 4 5 both key 0", ("copy", "a", (0, 1, 2, 3), "end", 4, 5, "both", 0)),
    ("copy a 0 1 2 3 to a 4 5 none key 1000000000", ("copy", "a", (0, 1, 2, 3), "a", 4, 5, "none", 10 ** 9)),
)

HEADS = (
    ("within 0 -1 2 3", ("within", (0, -1, 2, 3))),
    ("within -1000000000000 0 1000000000000 0", ("within", (-BOUND, 0, BOUND, 0))),
    ("moved 0 -5", ("moved", 0, -5)),
    ("moved 1000000000000 -1000000000000", ("moved", BOUND, -BOUND)),
    ("mirrored 0 -5", ("mirrored", 0, -5)),
    ("mirrored - -5", ("mirrored", None, -5)),
    ("mirrored 7 -", ("mirrored", 7, None)),
    ("mirrored - -", ("mirrored", None, None)),
    ("repeat 0", ("repeat", 0)),
    ("repeat 12", ("repeat", 12)),
)

# Lines that stand for nothing, wherever they are.
BAD_LINES = [
    "", " ", "x", "end ", " end", "ends", "End", "end end", "#", "- -", "0", "def", "def ", "def A", "def abcdefghi",
    "def a b", "def a1", "def  a", "call", "call ", "call A", "call abcdefghi", "call a a", "call 1", "call  a",
    "fill", "fill a", "fill a 0 0 1 1", "fill a 0 0 1 1 5 6", "fill 0 0 1 1 5", "fill a 0 0 1 1 -", "fill a 0 0 1 1 x",
    "FILL a 0 0 1 1 5", "fill A 0 0 1 1 5", "fill abcdefghi 0 0 1 1 5", "fill a1 0 0 1 1 5", "fill - 0 0 1 1 5",
    "fill  a 0 0 1 1 5", "fill a  0 0 1 1 5", "fill a 0 0 1 1  5", "fill a 0 0 1 1 5 ", " fill a 0 0 1 1 5",
    "  fill a 0 0 1 1 5", "fill a 0 0 1 1 5\t", "fill\ta 0 0 1 1 5", "fill a 0,0,1,1 5", "fill a (0, 0, 1, 1) 5",
    "fill a 00 0 1 1 5", "fill a 0 01 1 1 5", "fill a 0 0 -0 1 5", "fill a 0 0 1 +1 5", "fill a 0 0 1 1 05",
    "fill a 0 0 1 1 -05", "fill a 0 0 1 1 5.0", "fill a 0 0 1 1 1e3", "fill a 0 0 1 1 0x1", "fill a 0 0 1 1 1_0",
    "fill a 0 0 1 1 --5", "fill a 0 0 1 1 5-", "fill a 0 0 1 1 -", "fill a 0 0 1 1 ", "fill a - 0 1 1 5",
    "fill a 1000000000000000 0 1 1 5", "fill a 0 -1000000000000000 1 1 5", "fill a 0 0 1 1 " + "9" * 40,
    "recolour", "recolour a 0 0 1", "recolour a 0 0 1 1 ", "recolour a 0 0 1 1 5", "recolour a 0 0 1 1 5=",
    "recolour a 0 0 1 1 =5", "recolour a 0 0 1 1 =", "recolour a 0 0 1 1 5=6=7", "recolour a 0 0 1 1 5 = 6",
    "recolour a 0 0 1 1 5==6", "recolour a 0 0 1 1 05=6", "recolour a 0 0 1 1 5=-0", "recolour a 0 0 1 1 5=6,7=8",
    "recolour a 0 0 1 1 5=6  7=8", "recolour a 0 0 1 1 5=6 7", "recolour a 0 0 1 1 5=" + "1" * 16, "recolour 0 0 1 1 5=6",
    "recolor a 0 0 1 1 5=6", "recolour A 0 0 1 1 5=6", "recolour a 0 0 x 1 5=6",
    "copy", "copy a 0 1 2 3 a 4 5 none", "copy a 0 1 2 3 to a 4 5", "copy a 0 1 2 3 to a 4 none", "copy a 0 1 2 3 To a 4 5 none",
    "copy a 0 1 2 3 to a 4 5 None", "copy a 0 1 2 3 to a 4 5 left", "copy a 0 1 2 3 to a 4 5 acrossdown",
    "copy a 0 1 2 3 to a 4 5 none key", "copy a 0 1 2 3 to a 4 5 none key ", "copy a 0 1 2 3 to a 4 5 none 0",
    "copy a 0 1 2 3 to a 4 5 none key None", "copy a 0 1 2 3 to a 4 5 none key -", "copy a 0 1 2 3 to a 4 5 none key 00",
    "copy a 0 1 2 3 to a 4 5 none key 0 0", "copy a 0 1 2 3 to a 4 5 none key 0 ", "copy a 0 1 2 3 to a 4 5 none  key 0",
    "copy a 0 1 2 3 to a 4 5 key 0", "copy a 0 1 2 3 to a 4 5 none Key 0", "copy a 0 1 2 3 to a 4 5 ",
    "copy a 0 1 2 3 to A 4 5 none", "copy A 0 1 2 3 to a 4 5 none", "copy a 0 1 2 3 to abcdefghi 4 5 none",
    "copy 1 0 1 2 3 to a 4 5 none", "copy a 0 1 2 03 to a 4 5 none", "copy a 0 1 2 3 to a 4 05 none",
    "copy a 0 1 2 3 to a x 5 none", "copy a 0 1 2 3 to a - 5 none", "copy a 0 1 2 3 to a 4 " + "1" * 16 + " none",
    "copy a 0 1 2 3 to a 4 5 none key " + "1" * 16,
    "within", "within 0 0 1", "within 0 0 1 1 1", "within a 0 0 1 1", "within 0 0 1 -", "within 0 0 1 x", "within 0 0 1 01",
    "within 0 0 1  1", "within 0 0 1 1 ", "moved", "moved 0", "moved 0 0 0", "moved - 0", "moved 0 -", "moved 00 0",
    "moved 0 0 ", "moved 0 x", "mirrored", "mirrored 0", "mirrored -", "mirrored 0 0 0", "mirrored - - -", "mirrored 0 x",
    "mirrored None 0", "mirrored -- 0", "mirrored 0 -0", "mirrored 0  -", "mirrored 0 - ", "mirrored " + "1" * 16 + " 0",
    "repeat", "repeat -", "repeat x", "repeat 1 1", "repeat 01", "repeat  1", "repeat 1 ", "repeat " + "1" * 16,
]


def read_line(line):
    """What a line stands for by itself, in the first place of a text."""
    return Script.read(STAGE, line).orders


class WritingTest(unittest.TestCase):
    def check(self, text, orders, parts=()):
        """Check a text there and back."""
        with self.subTest(text=text):
            script = Script(STAGE, orders, parts=parts)
            self.assertEqual(str(script), text)
            read = Script.read(STAGE, text)
            self.assertEqual((read.stage, read.orders, read.parts), (STAGE, orders, parts))
            self.assertEqual(read, script)
            self.assertEqual(str(read), text)

    def test_without_lines(self):
        self.check("", ())

    def test_each_kind_of_line(self):
        for line, order in LINES:
            self.check(line, (order,))
            self.check("\n".join([line, line]), (order, order)) if order[0] == "fill" else None
            for head, frame in HEADS:
                self.check(f"{head}\n  {line}\nend", ((*frame, (order,)),)) if frame != ("repeat", 12) else None

    def test_heads(self):
        for head, frame in HEADS:
            self.check(f"{head}\nend", ((*frame, ()),))
            for inner, inner_frame in HEADS:
                self.check(f"{head}\n  {inner}\n  end\n  {inner}\n  end\nend", ((*frame, ((*inner_frame, ()),) * 2),))

    def test_parts(self):
        fill = ("fill", "a", (0, 0, 1, 1), 5)
        self.check("def a\nend", (), (("a", ()),))
        self.check("def a\n  fill a 0 0 1 1 5\nend\ncall a", (("call", "a"),), (("a", (fill,)),))
        self.check(
            "def call\n  fill a 0 0 1 1 5\nend\ndef def\n  moved 1 0\n    call call\n  end\nend\ndef end\n  call def\nend\n"
            "call end\nrepeat 2\n  call call\nend",
            (("call", "end"), ("repeat", 2, (("call", "call"),))),
            (("call", (fill,)), ("def", (("moved", 1, 0, (("call", "call"),)),)), ("end", (("call", "def"),))))
        self.check(
            "\n".join(f"def {name}\nend" for name in "abcdefgh"), (), tuple((name, ()) for name in "abcdefgh"))
        self.check("fill end 0 0 1 1 5", (("fill", "end", (0, 0, 1, 1), 5),))

    def test_all_levels(self):
        text = (
            "within 0 0 9 9\n  moved 1 -2\n    mirrored - 4\n      repeat 2\n        within 1 1 3 3\n"
            "          fill a 0 0 1 1 5\n        end\n        fill a 1 1 1 1 6\n      end\n    end\n  end\nend")
        fill, other = ("fill", "a", (0, 0, 1, 1), 5), ("fill", "a", (1, 1, 1, 1), 6)
        inner = ("repeat", 2, (("within", (1, 1, 3, 3), (fill,)), other))
        self.check(text, (("within", (0, 0, 9, 9), (("moved", 1, -2, (("mirrored", None, 4, (inner,)),)),)),))

    def test_many_scripts(self):
        source = random.Random(1)
        for _ in range(200):
            orders = slow.some_orders(source, STAGE, source.randint(0, 6), 5)
            parts = (("p", slow.some_orders(source, STAGE, 2, 5)), ("q", (("call", "p"),)))
            script = Script(STAGE, orders, parts=parts)
            read = Script.read(STAGE, str(script))
            self.assertEqual((read, str(read)), (script, str(script)))
            self.assertEqual(read.strokes, script.strokes)

    def test_by_name_and_off_an_object(self):
        script = Script(STAGE, (LINES[0][1],))
        self.assertEqual(Script.read(stage=STAGE, text=LINES[0][0]), script)
        self.assertEqual(Script.read(text=LINES[0][0], stage=STAGE), script)
        self.assertEqual(Script(STAGE).read(STAGE, LINES[0][0]), script)


class InvalidTextTest(unittest.TestCase):
    def check_line(self, line, text):
        check_raises_equal(self, InvalidText, line, Script.read, STAGE, text)
        check_raises_equal(self, InvalidText, line, Script.read, stage=STAGE, text=text)

    def test_no_string(self):
        for value in ODD_VALUES + (0, (), ("fill a 0 0 1 1 5",), ["end"], b"", b"fill a 0 0 1 1 5"):
            if not isinstance(value, str):
                self.check_line(None, value)

    def test_lines_without_a_form(self):
        for line in BAD_LINES:
            if line:
                self.check_line(0, line)
            self.check_line(1, f"fill a 0 0 1 1 5\n{line}")
            self.check_line(1, f"fill a 0 0 1 1 5\n{line}\nnonsense\nfill a 0 0 1 1 5")
            if not line.startswith(" "):
                self.check_line(2, f"repeat 2\n  fill a 0 0 1 1 5\n  {line}\nend")
                self.check_line(4, f"def a\n  repeat 2\n    fill a 0 0 1 1 5\n  end\n  {line}\nend")

    def test_each_word(self):
        for line in [line for line, _ in LINES + HEADS]:
            words = line.split(" ")
            for at in range(len(words)):
                for word in ("X", "00", "-0", "", "1" * 16, "fill x"):
                    wrong = " ".join([*words[:at], word, *words[at + 1:]])
                    self.check_line(0, wrong)
                    self.check_line(1, f"repeat 1\n  {wrong}\nend")
            if words[-1] == "none":
                self.check_line(0, f"x{line}")

    def test_other_signs_in_place_of_the_indentation(self):
        for line in [line for line, _ in LINES + HEADS] + ["call a", "end"]:
            self.check_line(1, f"repeat 1\nxx{line}\nend")
            self.check_line(1, f"repeat 1\n- {line}\nend")
            self.check_line(2, f"repeat 1\n  moved 1 1\n  xx{line}\n  end\nend")

    def test_empty_lines(self):
        self.check_line(0, "\n")
        self.check_line(0, "\nfill a 0 0 1 1 5")
        self.check_line(1, "fill a 0 0 1 1 5\n")
        self.check_line(1, "fill a 0 0 1 1 5\n\nfill a 0 0 1 1 5")
        self.check_line(2, "repeat 1\nend\n")

    def test_indentation(self):
        for line, _ in LINES:
            for indentation in (" ", "  ", "   "):
                self.check_line(0, indentation + line)
            for indentation in ("", " ", "   ", "    "):
                self.check_line(1, f"repeat 1\n{indentation}{line}\nend")
            for indentation in ("", "  ", "   ", "     ", "      "):
                self.check_line(2, f"repeat 1\n  repeat 1\n{indentation}{line}\n  end\nend")
        for head, _ in HEADS:
            self.check_line(0, f"  {head}\n  end")
            self.check_line(1, f"repeat 1\n{head}\nend\nend")
            self.check_line(1, f"repeat 1\n   {head}\n   end\nend")
        for indentation in (" ", "  ", "   "):
            self.check_line(1, f"repeat 1\n{indentation}end")
            self.check_line(1, f"def a\n{indentation}end")
        for indentation in ("", " ", "   ", "    "):
            self.check_line(2, f"repeat 1\n  moved 1 1\n{indentation}end\nend")

    def test_a_missing_end(self):
        self.check_line(1, "repeat 1")
        self.check_line(1, "def a")
        self.check_line(2, "repeat 1\n  fill a 0 0 1 1 5")
        self.check_line(3, "repeat 1\n  moved 1 1\n  end")
        self.check_line(4, "def a\nend\ndef b\n  call a")
        self.check_line(2, "fill a 0 0 1 1 5\nrepeat 1")
        self.check_line(3, "repeat 1\n  moved 1 1\n    within 0 0 1 1")

    def test_an_end_too_many(self):
        self.check_line(0, "end")
        self.check_line(1, "fill a 0 0 1 1 5\nend")
        self.check_line(2, "repeat 1\nend\nend")
        self.check_line(2, "def a\nend\nend")

    def test_parts_in_other_places(self):
        self.check_line(1, "fill a 0 0 1 1 5\ndef a\nend")
        self.check_line(2, "repeat 0\nend\ndef a\nend")
        self.check_line(3, "def a\nend\ncall a\ndef b\nend")
        self.check_line(1, "repeat 1\n  def a\n  end\nend")
        self.check_line(1, "def a\n  def b\n  end\nend")
        self.check_line(1, "def a\ndef b\nend")

    def test_the_first_wrong_line_counts(self):
        self.check_line(1, "fill c 0 0 1 1 5\nnonsense\n\nend")
        self.check_line(2, "def a\n  call b\nnonsense")

    def test_many_levels(self):
        text = "\n".join("  " * at + "repeat 1" for at in range(100))
        self.check_line(100, text)
        ends = "\n".join("  " * at + "end" for at in reversed(range(100)))
        check_raises_equal(self, InvalidOrder, (0,) * 7, Script.read, STAGE, f"{text}\n{ends}")
        self.check_line(200, f"{text}\n{ends}\nend")


class LeftToScriptTest(unittest.TestCase):
    def check_path(self, path, text):
        check_raises_equal(self, InvalidOrder, path, Script.read, STAGE, text)

    def test_surfaces_and_parts_that_do_not_exist(self):
        self.check_path((0,), "fill c 0 0 1 1 5")
        self.check_path((1,), "fill a 0 0 1 1 5\ncopy a 0 0 1 1 to c 0 0 none")
        self.check_path((0,), "recolour abcdefgh 0 0 1 1")
        self.check_path((0,), "call a")
        self.check_path(("a", 0), "def a\n  call a\nend")
        self.check_path(("a", 1), "def a\n  repeat 1\n  end\n  call b\nend\ndef b\nend")

    def test_bounds(self):
        for line in (
            "fill a 0 0 1 1 -1", "fill a 0 0 1 1 1000000001", "fill a 0 0 -1 1 5", "fill a 0 0 1 -1 5",
            "fill a 1000000000001 0 1 1 5", "fill a 999999999999999 0 1 1 5", "fill a 0 -999999999999999 1 1 5",
            "recolour a 0 0 1 1 -1=2", "recolour a 0 0 1 1 1=-2", "recolour a 0 0 1 1 1000000001=1", "recolour a 0 0 1 -1",
            "copy a 0 0 1 1 to a 1000000000001 0 none", "copy a 0 0 1 1 to a 0 0 none key -1",
            "copy a 0 0 1 1 to a 0 0 none key 1000000001", "copy a 0 0 -1 1 to a 0 0 none",
        ):
            self.check_path((0,), line)
        for head in ("within 0 0 -1 1", "within 1000000000001 0 1 1", "moved 1000000000001 0", "moved 0 -1000000000001",
                     "mirrored 1000000000001 -", "mirrored - -1000000000001", "repeat 13", "repeat -1", "repeat 999999999999999"):
            self.check_path((0,), f"{head}\nend")
            self.check_path((0,), f"{head}\n  call a\nend")

    def test_ascending_orders_and_numbers_of_pairs_and_parts(self):
        self.check_path((0,), "recolour a 0 0 1 1 2=1 1=2")
        self.check_path((0,), "recolour a 0 0 1 1 1=2 1=3")
        self.check_path((0,), "recolour a 0 0 1 1 1=2 2=3 3=4")
        self.check_path((), "def b\nend\ndef a\nend")
        self.check_path((), "def a\nend\ndef a\nend\ncall c")
        self.check_path((), "\n".join(f"def {name}\nend" for name in "abcdefghi"))

    def test_levels(self):
        def text(depth):
            heads = ["  " * at + "repeat 1" for at in range(depth)]
            return "\n".join(heads + ["  " * depth + "fill a 0 0 1 1 5"] + ["  " * at + "end" for at in reversed(range(depth))])
        self.assertEqual(len(Script.read(STAGE, text(5))), 1)
        self.check_path((0,) * 7, text(6))
        self.check_path((0,) * 7, text(7))
        inside = "\n".join("  " + line for line in text(6).split("\n"))
        self.check_path(("a",) + (0,) * 7, f"def a\n{inside}\nend")

    def test_limits(self):
        fill, keyed = "fill a 0 0 1 1 5", "copy a 0 0 1 1 to a 0 0 none key 5"
        check_raises_equal(self, TooManyOrders, 24, Script.read, STAGE, f"repeat 12\n  {fill}\n  {fill}\nend")
        check_raises_equal(self, TooManyCopies, 5, Script.read, STAGE, f"repeat 5\n  {keyed}\nend")
        check_raises_equal(self, TooManyKeys, 3, Script.read, STAGE, f"def a\n  {keyed}\nend\nrepeat 3\n  call a\nend")
        check_raises_equal(self, TooManyRecolours, 5, Script.read, STAGE, "repeat 5\n  recolour a 0 0 1 1\nend")


if __name__ == "__main__":
    unittest.main()
