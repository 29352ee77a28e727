import itertools
import random
import unittest

from allscreens import pictures
from allscreens.errors import (
    DifferentStages, InvalidCell, InvalidColour, InvalidPatch, InvalidStage, InvalidSurface, NotAPicture,
)
from allscreens.pictures import Picture
from allscreens.regions import Region
from helpers import (
    BOUND, NOT_CELLS, NOT_COLOURS, NOT_RECTS, NOT_STAGES, NOT_SURFACES, ODD_VALUES, STAGE, AlwaysEqual, check_raises,
    check_raises_equal, points_of, raised_by, run_example,
)

SCALE = 10 ** 11
TOP = 10 ** 9

EXAMPLE = """
>>> from allscreens.pictures import Picture
>>> stage = (("a", 6, 1), ("b", 10 ** 12, 3))
>>> picture = Picture(stage, ("a", (-2, 0, 4, 9), 7), ("a", (1, 0, 1, 1), 5))
>>> areas = picture.areas("a")
>>> [picture["a", 0, 0], picture["a", 1, 0], picture["a", 2, 0], len(areas), areas[0][0], areas[0][1].rects, len(picture.areas("b"))]
[7, 5, 0, 3, 0, ((2, 0, 4, 1),), 1]
"""

SMALL = (("a", 4, 3), ("b", 1, 1), ("c", 2, 5))


def cells_of(stage):
    return [(name, x, y) for name, width, height in stage for x in range(width) for y in range(height)]


def colours_by_cells(stage, patches, ground=0):
    """A dict of the colours of all cells, found cell by cell."""
    found = {cell: ground for cell in cells_of(stage)}
    for surface, rect, colour in patches:
        for x, y in points_of(rect):
            if (surface, x, y) in found:
                found[surface, x, y] = colour
    return found


def areas_by_cells(stage, colours, surface):
    """What `areas` is to return, made of single points."""
    found = {}
    for name, x, y in cells_of(stage):
        if name == surface:
            found.setdefault(colours[name, x, y], []).append((x, y, 1, 1))
    return tuple((colour, Region(*found[colour])) for colour in sorted(found))


def scaled_rect(rect):
    return tuple(SCALE * number for number in rect)


def scaled_stage(stage):
    return tuple((name, SCALE * width, SCALE * height) for name, width, height in stage)


def scaled_patches(patches):
    return tuple((name, scaled_rect(rect), colour) for name, rect, colour in patches)


def corners(cell):
    """The corners of the block that stands for a cell, where everything is as much larger."""
    name, x, y = cell
    for i, j in itertools.product((0, SCALE - 1), repeat=2):
        yield (name, x * SCALE + i, y * SCALE + j)


def some_patches(source, many, stage=SMALL):
    return tuple(
        (source.choice(stage)[0], (source.randint(-1, 3), source.randint(-1, 3), source.choice((0, 1, 1, 1, 2, 2, 5)),
                                   source.choice((0, 1, 1, 1, 2, 2, 5))), source.choice((0, 1, 7, TOP)))
        for _ in range(many)
    )


class PictureTest(unittest.TestCase):
    def check(self, picture, stage, colours):
        """Check all that a picture tells against the colours of its cells."""
        self.assertIs(type(picture), Picture)
        self.assertEqual(picture.stage, stage)
        self.assertEqual({cell: picture[cell] for cell in colours}, colours)
        for surface, _, _ in stage:
            areas = picture.areas(surface)
            self.assertIs(type(areas), tuple)
            self.assertEqual(areas, areas_by_cells(stage, colours, surface))
            self.assertEqual({type(pair) for pair in areas}, {tuple})

    def check_great(self, picture, stage, colours):
        """Check a picture that is 10 ** 11 times as large as the one with these colours."""
        self.assertEqual(picture.stage, scaled_stage(stage))
        for cell in colours:
            self.assertEqual({picture[corner] for corner in corners(cell)}, {colours[cell]})
        for surface, _, _ in stage:
            found = [(colour, region.rects) for colour, region in picture.areas(surface)]
            expected = [
                (colour, tuple(scaled_rect(rect) for rect in region.rects))
                for colour, region in areas_by_cells(stage, colours, surface)
            ]
            self.assertEqual(found, expected)


class PatchesTest(PictureTest):
    def check_patches(self, *patches, ground=0):
        with self.subTest(patches=patches, ground=ground):
            colours = colours_by_cells(SMALL, patches, ground)
            self.check(Picture(SMALL, *patches, ground=ground), SMALL, colours)
            great = Picture(scaled_stage(SMALL), *scaled_patches(patches), ground=ground)
            self.check_great(great, SMALL, colours)

    def test_ground(self):
        self.check_patches()
        self.check_patches(ground=5)
        self.check_patches(("a", (0, 0, 1, 1), 0), ground=TOP)
        self.assertEqual(Picture(SMALL).areas("a"), ((0, Region((0, 0, 4, 3))),))
        self.assertEqual(Picture(SMALL, ground=9).areas("b"), ((9, Region((0, 0, 1, 1))),))

    def test_patches_that_overlap(self):
        self.check_patches(("a", (0, 0, 3, 2), 1), ("a", (1, 1, 3, 2), 2))
        self.check_patches(("a", (1, 1, 3, 2), 2), ("a", (0, 0, 3, 2), 1))
        self.check_patches(("a", (0, 0, 4, 3), 1), ("a", (1, 1, 1, 1), 2))
        self.check_patches(("a", (1, 1, 1, 1), 2), ("a", (0, 0, 4, 3), 1))
        self.check_patches(("a", (0, 0, 4, 3), 1), ("a", (0, 0, 4, 3), 2), ("a", (0, 0, 4, 3), 0))

    def test_patches_that_touch(self):
        self.check_patches(("a", (0, 0, 2, 3), 1), ("a", (2, 0, 2, 3), 1))
        self.check_patches(("a", (0, 0, 4, 1), 1), ("a", (0, 1, 4, 2), 1))
        self.check_patches(("a", (0, 0, 4, 1), 1), ("a", (0, 2, 4, 1), 1), ("a", (0, 1, 4, 1), 1))
        self.check_patches(("a", (0, 0, 2, 3), 1), ("a", (2, 0, 2, 3), 2))

    def test_patches_with_a_gap_between(self):
        self.check_patches(("a", (0, 0, 1, 3), 1), ("a", (2, 0, 1, 3), 1))
        self.check_patches(("a", (2, 0, 2, 3), 1), ("a", (0, 0, 1, 3), 1), ("a", (1, 1, 1, 1), 7))
        self.check_patches(("a", (0, 0, 4, 1), 1), ("a", (0, 2, 4, 1), 1))
        self.check_patches(("c", (0, 0, 1, 1), 1), ("c", (0, 2, 1, 1), 1), ("c", (0, 4, 1, 1), 1))

    def test_patches_beyond_the_surface(self):
        self.check_patches(("a", (-2, -2, 4, 3), 1), ("a", (3, 2, 5, 5), 2), ("b", (-5, -5, 10, 10), 3))
        self.check_patches(("a", (4, 0, 1, 1), 1), ("a", (0, 3, 1, 1), 2), ("a", (-1, 0, 1, 1), 3), ("a", (0, -1, 1, 1), 4))
        self.check_patches(("c", (0, -1, 1, 10), 1))
        picture = Picture(SMALL, ("a", (-BOUND, -BOUND, BOUND, BOUND), 1), ("a", (-BOUND, 1, BOUND, BOUND), 1))
        self.assertEqual(picture, Picture(SMALL))
        self.assertEqual(
            Picture(STAGE, ("b", (-1, -BOUND, BOUND, BOUND), 1), ("b", (BOUND - 1, BOUND - 1, BOUND, BOUND), 2)).areas("b"),
            ((0, Region((0, 0, BOUND, BOUND)) - Region((BOUND - 1, BOUND - 1, 1, 1))),
             (2, Region((BOUND - 1, BOUND - 1, 1, 1)))))

    def test_patches_without_points(self):
        self.check_patches(("a", (0, 0, 0, 3), 1), ("a", (1, 1, 2, 0), 2), ("a", (1, 1, 0, 0), 3))
        self.check_patches(("a", (0, 0, 3, 3), 1), ("a", (1, 1, 2, 0), 2))

    def test_many_patches(self):
        source = random.Random(1)
        for many in range(9):
            for _ in range(60):
                self.check_patches(*some_patches(source, many), ground=source.choice((0, 7)))

    def test_by_name(self):
        self.assertEqual(Picture(stage=SMALL, ground=3), Picture(SMALL, ground=3))
        self.assertEqual(Picture(ground=0, stage=SMALL), Picture(SMALL))

    def test_equal_colours_give_one_area(self):
        picture = Picture(SMALL, ("a", (0, 0, 1, 1), 0), ("a", (3, 2, 1, 1), 0))
        self.assertEqual(picture.areas("a"), ((0, Region((0, 0, 4, 3))),))
        self.assertEqual(picture, Picture(SMALL))

    def test_areas_by_name_and_ascending(self):
        picture = Picture(SMALL, ("a", (0, 0, 1, 1), TOP), ("a", (1, 0, 1, 1), 10), ("a", (2, 0, 1, 1), 9), ground=2)
        self.assertEqual([colour for colour, _ in picture.areas(surface="a")], [2, 9, 10, TOP])
        self.assertEqual([region.points for _, region in picture.areas("a")], [9, 1, 1, 1])

    def test_the_example_of_the_document(self):
        run_example(self, EXAMPLE)

    def test_the_class_has_all_that_the_document_lists(self):
        for name in ("__init__", "of_cells", "stage", "__getitem__", "areas", "patched", "unlike", "__eq__", "__repr__"):
            self.assertIn(name, vars(Picture))
        self.assertIsInstance(vars(Picture)["of_cells"], classmethod)
        self.assertIsInstance(vars(Picture)["stage"], property)
        self.assertEqual(pictures.Picture.__module__, "allscreens.pictures")
        self.assertIs(bool(Picture(SMALL)), True)


class PatchedTest(PictureTest):
    def test_patched_beside_cells(self):
        source = random.Random(2)
        for _ in range(150):
            first, then = some_patches(source, source.randint(0, 5)), some_patches(source, source.randint(0, 4))
            before = Picture(SMALL, *first, ground=7)
            behind = before.patched(*then)
            self.check(behind, SMALL, colours_by_cells(SMALL, first + then, 7))
            self.check(before, SMALL, colours_by_cells(SMALL, first, 7))
            great = Picture(scaled_stage(SMALL), *scaled_patches(first), ground=7).patched(*scaled_patches(then))
            self.check_great(great, SMALL, colours_by_cells(SMALL, first + then, 7))

    def test_without_patches(self):
        picture = Picture(SMALL, ("a", (0, 0, 1, 1), 4))
        self.assertEqual(picture.patched(), picture)
        self.assertEqual(picture.patched(("a", (0, 0, 0, 1), 9)), picture)

    def test_patched_more_than_a_thousand_times(self):
        source = random.Random(3)
        patches = some_patches(source, 1500)
        picture = Picture(SMALL)
        for patch in patches:
            picture = picture.patched(patch)
        self.check(picture, SMALL, colours_by_cells(SMALL, patches))
        self.assertEqual(picture, Picture(SMALL, *patches))

    def test_patched_with_many_dots(self):
        source = random.Random(4)
        dots = [(source.randrange(BOUND), source.randrange(BOUND), source.randrange(1, 9)) for _ in range(1200)]
        picture = Picture(STAGE)
        for x, y, colour in dots:
            picture = picture.patched(("b", (x, y, 1, 1), colour))
        self.assertEqual([picture["b", x, y] for x, y, _ in dots], [colour for _, _, colour in dots])
        self.assertEqual(sum(region.points for _, region in picture.areas("b")[1:]), 1200)
        self.assertEqual(picture, Picture.of_cells(STAGE, tuple((("b", x, y), colour) for x, y, colour in dots)))

    def test_errors(self):
        check_patch_errors(self, Picture(STAGE).patched)


class OfCellsTest(PictureTest):
    def test_cells(self):
        source = random.Random(5)
        for many in (0, 1, 2, 5, 20, 60):
            cells = tuple((source.choice(cells_of(SMALL)), source.choice((0, 3, TOP))) for _ in range(many))
            colours = {cell: 0 for cell in cells_of(SMALL)} | dict(cells)
            self.check(Picture.of_cells(SMALL, cells), SMALL, colours)

    def test_a_cell_that_comes_twice(self):
        cell = ("c", 1, 4)
        self.assertEqual(Picture.of_cells(SMALL, ((cell, 1), (cell, 2)))[cell], 2)
        self.assertEqual(Picture.of_cells(SMALL, ((cell, 1), (("a", 0, 0), 5), (cell, 0)))[cell], 0)
        self.assertEqual(Picture.of_cells(SMALL, ((cell, 1), (cell, 2))), Picture(SMALL, ("c", (1, 4, 1, 1), 2)))

    def test_by_name_and_off_an_object(self):
        cells = ((("a", 0, 0), 5),)
        expected = Picture(SMALL, ("a", (0, 0, 1, 1), 5))
        self.assertEqual(Picture.of_cells(stage=SMALL, cells=cells), expected)
        self.assertEqual(Picture.of_cells(cells=cells, stage=SMALL), expected)
        self.assertEqual(Picture(STAGE, ground=9).of_cells(SMALL, cells), expected)

    def test_errors(self):
        for value in NOT_STAGES:
            for cells in ((), None, (None,)):
                check_raises(self, InvalidStage, value, Picture.of_cells, value, cells)
        for value in ODD_VALUES + (0, "ab", [(("a", 0, 0), 5)], {("a", 0, 0): 5}):
            check_raises(self, InvalidPatch, None, Picture.of_cells, STAGE, value)
        good = (("a", 0, 0), 5)
        wrong = [(value, 5) for value in NOT_CELLS] + [(("a", 0, 0), value) for value in NOT_COLOURS] + [
            *ODD_VALUES, 0, (), (5,), (("a", 0, 0),), (("a", 0, 0), 5, 5), [("a", 0, 0), 5], ("a", 0, 0), (5, ("a", 0, 0)),
        ]
        for value in wrong:
            check_raises_equal(self, InvalidPatch, 0, Picture.of_cells, STAGE, (value,))
            check_raises_equal(self, InvalidPatch, 2, Picture.of_cells, STAGE, (good, good, value, good, value))
            check_raises_equal(self, InvalidPatch, 1, Picture.of_cells, stage=STAGE, cells=(good, value))


def check_patch_errors(test, call):
    """Check a call that takes patches of STAGE."""
    good = ("a", (0, 0, 1, 1), 5)
    wrong = [(value, (0, 0, 1, 1), 5) for value in NOT_SURFACES] + [("a", value, 5) for value in NOT_RECTS] + [
        ("a", (0, 0, 1, 1), value) for value in NOT_COLOURS] + [
        *ODD_VALUES, 0, (), ("a",), ("a", (0, 0, 1, 1)), ("a", (0, 0, 1, 1), 5, 5), ["a", (0, 0, 1, 1), 5],
        ((0, 0, 1, 1), "a", 5), (("a", (0, 0, 1, 1), 5),), (AlwaysEqual(), (0, 0, 1, 1), 5),
    ]
    for value in wrong:
        check_raises_equal(test, InvalidPatch, 0, call, value)
        check_raises_equal(test, InvalidPatch, 0, call, value, value)
        check_raises_equal(test, InvalidPatch, 2, call, good, good, value, good, value)
        check_raises_equal(test, InvalidPatch, 1, call, good, value)


class ErrorsTest(unittest.TestCase):
    def test_stages(self):
        for value in NOT_STAGES:
            check_raises(self, InvalidStage, value, Picture, value)
            check_raises(self, InvalidStage, value, Picture, value, None, ground=None)
            check_raises(self, InvalidStage, value, Picture, stage=value, ground=-1)

    def test_patches(self):
        check_patch_errors(self, lambda *patches: Picture(STAGE, *patches))
        check_patch_errors(self, lambda *patches: Picture(STAGE, *patches, ground=-1))

    def test_ground(self):
        for value in NOT_COLOURS:
            check_raises(self, InvalidColour, value, Picture, STAGE, ground=value)
            check_raises(self, InvalidColour, value, Picture, STAGE, ("a", (0, 0, 1, 1), 5), ground=value)

    def test_cells(self):
        picture = Picture(STAGE)
        for value in NOT_CELLS:
            check_raises(self, InvalidCell, value, lambda: picture[value])
        self.assertEqual(picture["ab", BOUND - 1, 0], 0)
        self.assertEqual(picture["b", BOUND - 1, BOUND - 1], 0)

    def test_surfaces(self):
        for value in NOT_SURFACES:
            check_raises(self, InvalidSurface, value, Picture(STAGE).areas, value)
            check_raises(self, InvalidSurface, value, Picture(STAGE).areas, surface=value)

    def test_unlike(self):
        picture = Picture(STAGE)
        for value in ODD_VALUES + (0, STAGE, (), Region(), Picture):
            check_raises(self, NotAPicture, value, picture.unlike, value)
            check_raises(self, NotAPicture, value, picture.unlike, other_picture=value)
        for stage in (STAGE[:2], SMALL, (("a", 3, 4),) + STAGE[1:]):
            found = raised_by(self, DifferentStages, picture.unlike, Picture(stage))
            self.assertEqual(vars(found), {})
            raised_by(self, DifferentStages, Picture(stage).unlike, other_picture=picture)


class UnlikeTest(PictureTest):
    def unlike_by_cells(self, stage, one, other):
        found = []
        for surface, _, _ in stage:
            points = [(x, y, 1, 1) for name, x, y in cells_of(stage) if name == surface and
                      one[name, x, y] != other[name, x, y]]
            if points:
                found.append((surface, Region(*points)))
        return tuple(found)

    def test_beside_cells(self):
        source = random.Random(6)
        for _ in range(150):
            first = some_patches(source, source.randint(0, 4))
            second = some_patches(source, source.randint(0, 4))
            if source.randrange(3) == 0:
                second = first + second[:1]
            expected = self.unlike_by_cells(SMALL, colours_by_cells(SMALL, first), colours_by_cells(SMALL, second))
            one, other = Picture(SMALL, *first), Picture(SMALL, *second)
            self.assertEqual(one.unlike(other), expected)
            self.assertEqual(other.unlike(other_picture=one), expected)
            self.assertIs(one == other, expected == ())
            self.assertIs(one != other, expected != ())
            great = [Picture(scaled_stage(SMALL), *scaled_patches(patches)) for patches in (first, second)]
            self.assertEqual(
                [(name, region.rects) for name, region in great[0].unlike(great[1])],
                [(name, tuple(scaled_rect(rect) for rect in region.rects)) for name, region in expected])
            self.assertIs(great[0] == great[1], expected == ())

    def test_kinds(self):
        found = Picture(SMALL).unlike(Picture(SMALL, ground=1))
        self.assertEqual(found, (
            ("a", Region((0, 0, 4, 3))), ("b", Region((0, 0, 1, 1))), ("c", Region((0, 0, 2, 5)))))
        self.assertEqual([type(found), type(found[0]), type(found[0][1])], [tuple, tuple, Region])
        self.assertEqual(Picture(SMALL).unlike(Picture(SMALL)), ())
        picture = Picture(SMALL)
        self.assertEqual(picture.unlike(picture), ())


class EqualityTest(unittest.TestCase):
    def test_the_same_colours_made_otherwise(self):
        one = Picture(SMALL, ("a", (0, 0, 2, 3), 1), ("a", (2, 0, 2, 3), 1), ("c", (0, 0, 2, 5), 4), ("b", (0, 0, 1, 1), 0))
        other = Picture(SMALL, ("a", (0, 2, 4, 1), 0), ("a", (-9, -9, 50, 50), 1), ("b", (0, 0, 9, 9), 0), ground=4)
        self.assertIs(one == other, True)
        self.assertIs(one != other, False)
        self.assertIs(one == Picture(SMALL).patched(*[("a", (x, 0, 1, 3), 1) for x in range(4)], ("c", (0, 0, 2, 5), 4)), True)

    def test_other_colours_and_stages(self):
        one = Picture(SMALL, ("a", (0, 0, 2, 3), 1))
        others = (
            Picture(SMALL), Picture(SMALL, ("a", (0, 0, 2, 3), 2)), Picture(SMALL, ("a", (0, 0, 2, 2), 1)),
            one.patched(("c", (1, 4, 1, 1), 9)), Picture(SMALL[:2], ("a", (0, 0, 2, 3), 1)),
            Picture((("a", 4, 3), ("b", 1, 1), ("d", 2, 5)), ("a", (0, 0, 2, 3), 1)),
            Picture((("a", 4, 3), ("b", 1, 1), ("c", 2, 6)), ("a", (0, 0, 2, 3), 1)),
        )
        for other in others:
            self.assertIs(one == other, False)
            self.assertIs(one != other, True)
            self.assertIs(other == one, False)

    def test_other_values(self):
        for value in ODD_VALUES + (0, SMALL, repr(Picture(SMALL)), Picture):
            self.assertIs(Picture(SMALL) == value, False)
            self.assertIs(Picture(SMALL) != value, True)

    def test_repr(self):
        self.assertEqual(repr(Picture(SMALL)), "Picture(3 surfaces)")
        self.assertEqual(str(Picture(SMALL[:1], ground=8)), "Picture(1 surfaces)")

    def test_arguments_and_pictures_stay_as_they_were(self):
        patches = (("a", (0, 0, 2, 3), 1), ("c", (0, 0, 1, 1), 2))
        picture = Picture(SMALL, *patches)
        again = Picture(SMALL, *patches)
        picture.patched(("a", (1, 1, 1, 1), 9)), picture.areas("a"), picture.unlike(Picture(SMALL)), picture["a", 0, 0]
        self.assertEqual(picture, again)
        self.assertEqual(picture.areas("a"), picture.areas("a"))
        self.assertEqual(patches, (("a", (0, 0, 2, 3), 1), ("c", (0, 0, 1, 1), 2)))


if __name__ == "__main__":
    unittest.main()
