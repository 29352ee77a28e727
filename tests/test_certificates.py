import collections
import enum
import random
import unittest

import slow
import slow_forms
from allscreens import certificates
from allscreens.certificates import certify_alike, certify_cell, certify_loss
from allscreens.checker import accepts
from allscreens.comparing import alike
from allscreens.errors import DifferentStages, InvalidCell, NotAScript, UsesKeys
from allscreens.passes import without_idle
from allscreens.pictures import Picture
from allscreens.scripts import Script
from helpers import BOUND, NOT_CELLS, ODD_VALUES, STAGE, check_raises, raised_by, run_example
from slow_ends import Ends
from test_comparing import some_pair
from test_effects import cells_near

EXAMPLE = """
>>> from allscreens.certificates import certify_alike, certify_cell, certify_loss
>>> from allscreens.checker import accepts
>>> from allscreens.scripts import Script
>>> stage = (("a", 5, 1),)
>>> flip = Script(stage, (("copy", "a", (0, 0, 5, 1), "a", 0, 0, "across", None),))
>>> same, other = certify_alike(flip + flip, Script(stage)), certify_alike(flip, Script(stage))
>>> stays, kept = certify_cell(flip, ("a", 2, 0)), certify_loss(flip, ("a", 0, 0))
>>> [accepts(same[0], same[1]), other[0][0], accepts(other[0], other[1]), stays[0][0], stays[0][4], kept[0][0], accepts(same[0], (((0, 0, 5, 1),),)), accepts(same[0], (((0, 0, 4, 1),),))]
[True, 'unlike', True, 'stays', (2, 0, 1, 1), 'kept', True, False]
"""

SMALL = (("a", 4, 2), ("b", 3, 3))
ROW = (("a", 5, 1),)
TINY = (("a", 3, 1), ("b", 1, 2))


class CertificatesTest(unittest.TestCase):
    def check_accepted(self, found):
        claim, certificate = found
        self.assertEqual((type(found), len(found), type(claim)), (tuple, 2, tuple))
        self.assertIs(accepts(claim, certificate), True)
        return claim

    def check_alike(self, one, other):
        found = certify_alike(one, other)
        claim = self.check_accepted(found)
        self.assertEqual(claim[0], "alike" if alike(one, other) else "unlike")
        self.assertEqual(claim[1:4], (one.stage, one.strokes, other.strokes))
        if claim[0] == "unlike":
            self.assertIsNone(found[1])
            self.assertLessEqual(len(claim[5]), 8)
        else:
            self.assertEqual(len(found[1]), len(one.stage))
        self.assertEqual(certify_alike(other=other, one=one), found)
        return claim[0] == "alike"

    def test_pairs_of_scripts(self):
        source = random.Random(1)
        outcomes = []
        for many in range(1, 8):
            for _ in range(20):
                for stage in (SMALL, ROW):
                    one, other = [Script(stage, orders) for orders in some_pair(source, stage, many)]
                    outcomes.append(self.check_alike(one, other))
                    slowly = all(
                        slow_forms.same_ends(one.strokes, other.strokes, cell) for cell in slow.cells_of(stage))
                    self.assertIs(outcomes[-1], slowly)
                    self.assertTrue(self.check_alike(one, without_idle(one)))
                    self.assertTrue(self.check_alike(without_idle(other), other))
        self.assertGreater(min(outcomes.count(True), outcomes.count(False)), 50)

    def test_large_pairs_of_scripts(self):
        source = random.Random(2)
        stage = slow.scaled_stage(SMALL)
        for _ in range(60):
            one, other = [Script(stage, slow.scaled_orders(orders)) for orders in some_pair(source, SMALL, 6)]
            self.check_alike(one, other)
            self.assertTrue(self.check_alike(one, without_idle(one)))
            self.assertTrue(self.check_alike(one, one))

    def test_frames_and_parts(self):
        source = random.Random(3)
        for _ in range(30):
            script = Script(SMALL, slow.some_orders(source, SMALL, 4, 4))
            self.assertTrue(self.check_alike(script, Script(SMALL, script.strokes)))
        part = (("fill", "a", (0, 0, 1, 1), 5),)
        script = Script(SMALL, (("call", "p"), ("moved", 1, 0, (("call", "p"),))), parts=(("p", part),))
        self.assertTrue(self.check_alike(script, Script(SMALL, (("fill", "a", (0, 0, 2, 1), 5),))))

    def test_cells(self):
        source = random.Random(4)
        words = []
        for many in range(7):
            for _ in range(15):
                script = Script(SMALL, slow.some_orders(source, SMALL, many, 1))
                for cell in slow.cells_of(SMALL):
                    words.append(self.check_cell(script, cell, slow_forms.same_ends(script.strokes, (), cell)))
        self.assertGreater(min(words.count("stays"), words.count("changes")), 300)

    def check_cell(self, script, cell, stays):
        found = certify_cell(script, cell)
        claim = self.check_accepted(found)
        self.assertEqual(claim[1:3], (script.stage, script.strokes))
        if stays:
            self.assertEqual((claim[0], claim[3:]), ("stays", (cell[0], (*cell[1:], 1, 1))))
            self.assertEqual(found[1], ((*cell[1:], 1, 1),))
        else:
            self.assertEqual((claim[0], claim[3], found[1]), ("changes", cell, None))
        self.assertEqual(certify_cell(cell=cell, script=script), found)
        return claim[0]

    def test_cells_of_large_surfaces(self):
        source = random.Random(5)
        stage = slow.scaled_stage(SMALL)
        for _ in range(20):
            script = Script(stage, slow.scaled_orders(slow.some_orders(source, SMALL, 5)))
            for cell in cells_near(stage, script.strokes)[::7]:
                self.check_cell(script, cell, slow_forms.same_ends(script.strokes, (), cell))

    def test_loss(self):
        source = random.Random(6)
        words = []
        for many in range(7):
            for _ in range(12):
                script = Script(TINY, slow.tight_orders(source, TINY, many, 1, (None,)))
                lost = Ends(TINY, script.orders).lost()
                for cell in slow.cells_of(TINY):
                    words.append(self.check_loss(script, cell, cell in lost))
        self.assertGreater(min(words.count("lost"), words.count("kept")), 80)

    def check_loss(self, script, cell, lost):
        found = certify_loss(script, cell)
        claim = self.check_accepted(found)
        self.assertEqual((claim[1:4], found[1]), ((script.stage, script.strokes, cell), None))
        self.assertEqual((claim[0], len(claim)), ("lost", 6) if lost else ("kept", 4))
        self.assertEqual(certify_loss(cell=cell, script=script), found)
        return claim[0]

    def test_loss_by_recolouring(self):
        source = random.Random(7)
        stage = (("a", 1, 1), ("b", 2, 1))
        for _ in range(100):
            script = Script(stage, slow.some_orders(source, stage, 6, 0, ("recolour", "recolour", "copy"), (None,)))
            lost = Ends(stage, script.orders, slow.COLOURS).lost()
            for cell in slow.cells_of(stage):
                self.check_loss(script, cell, cell in lost)

    def test_loss_of_large_surfaces(self):
        stage = (("a", BOUND, BOUND), ("b", BOUND, BOUND))
        copy = ("copy", "a", (0, 0, BOUND, BOUND), "b", 0, 0, "both", None)
        turn = ("recolour", "a", (0, 0, BOUND, 5), ((1, 2),))
        script = Script(stage, (turn, copy))
        for cell, lost in (
            (("a", 7, 4), True), (("a", 7, 5), False), (("a", BOUND - 1, 0), True), (("b", 7, 7), True),
            (("a", 0, BOUND - 1), False),
        ):
            self.check_loss(script, cell, lost)
            self.check_loss(Script(stage, (copy, turn)), cell, cell[0] == "b")


class ValuesTest(unittest.TestCase):
    def test_values_of_derived_classes(self):
        """Scripts take them, so claims about these are accepted, too."""
        class Colour(enum.IntEnum):
            RED = 5
            BLUE = 7

        class Name(str):
            pass

        rect_of = collections.namedtuple("rect_of", "x y width height")
        surface_of = collections.namedtuple("surface_of", "name width height")
        stage = (surface_of(Name("a"), 4, 2), surface_of("b", 3, 3))
        fill = ("fill", Name("a"), rect_of(0, 0, 2, 1), Colour.RED)
        script = Script(stage, (fill, ("recolour", "a", (1, 0, 1, 1), ((Colour.RED, Colour.BLUE),))))
        found = [
            certify_alike(script, script), certify_alike(script, Script(stage)), certify_cell(script, (Name("a"), 0, 0)),
            certify_cell(script, ("b", 0, 0)), certify_loss(script, (Name("a"), 0, 0)), certify_loss(script, ("b", 0, 0)),
        ]
        self.assertEqual([claim[0] for claim, _ in found], ["alike", "unlike", "changes", "stays", "lost", "kept"])
        for claim, certificate in found:
            self.assertIs(accepts(claim, certificate), True)
            self.assertEqual(claim[1:3], (stage, script.strokes))


class ErrorsTest(unittest.TestCase):
    keyed = ("copy", "a", (0, 0, 1, 1), "a", 1, 0, "none", 5)

    def test_what_is_not_a_script(self):
        script = Script(STAGE, (self.keyed,))
        for value in ODD_VALUES + (0, STAGE, (), Picture(STAGE), Script, "fill a 0 0 1 1 5"):
            check_raises(self, NotAScript, value, certify_alike, value, script)
            check_raises(self, NotAScript, value, certify_alike, value, None)
            check_raises(self, NotAScript, value, certify_alike, script, value)
            check_raises(self, NotAScript, value, certify_alike, other=value, one=script)
            for call in (certify_cell, certify_loss):
                check_raises(self, NotAScript, value, call, value, ("a", 0, 0))
                check_raises(self, NotAScript, value, call, cell=None, script=value)

    def test_what_is_no_cell(self):
        script = Script(STAGE, (self.keyed,))
        for value in NOT_CELLS:
            for call in (certify_cell, certify_loss):
                check_raises(self, InvalidCell, value, call, script, value)
                check_raises(self, InvalidCell, value, call, cell=value, script=script)

    def test_different_stages(self):
        for stage in (SMALL, STAGE[:2], (("a", 3, 6),) + STAGE[1:]):
            self.assertEqual(vars(raised_by(self, DifferentStages, certify_alike, Script(STAGE), Script(stage))), {})

    def test_keys_behind_all_other_errors(self):
        for orders in ((self.keyed,), (self.keyed, ("fill", "a", (0, 0, 3, 5), 1))):
            self.assertEqual(vars(raised_by(self, UsesKeys, certify_loss, Script(STAGE, orders), ("b", 0, 0))), {})
        unwritten = self.keyed[:2] + ((9, 9, 1, 1),) + self.keyed[3:]
        claim, certificate = certify_loss(Script(STAGE, (unwritten,)), ("b", 0, 0))
        self.assertEqual((claim, certificate), (("kept", STAGE, (), ("b", 0, 0)), None))

    def test_equal_calls_return_equal_results(self):
        one, other = [Script(SMALL, slow.some_orders(random.Random(8), SMALL, 5, 0, keys=(None,))) for _ in range(2)]
        first = [certify_alike(one, Script(SMALL)), certify_cell(one, ("a", 0, 0)), certify_loss(one, ("b", 1, 1))]
        certify_cell(other, ("b", 2, 2))
        found = [certify_alike(other, Script(SMALL)), certify_cell(other, ("a", 0, 0)), certify_loss(other, ("b", 1, 1))]
        self.assertEqual(found, first)

    def test_the_interface_is_defined_here(self):
        for name in ("certify_alike", "certify_cell", "certify_loss"):
            self.assertEqual(vars(certificates)[name].__module__, "allscreens.certificates")

    def test_the_example_of_the_document(self):
        run_example(self, EXAMPLE)


if __name__ == "__main__":
    unittest.main()
