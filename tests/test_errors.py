import unittest

from allscreens import errors
from helpers import ODD_VALUES

# For each class the one right above it, and the name of its attribute, if it has one.
EXPECTED = {
    "FormError": (ValueError, None),
    "InvalidStage": ("FormError", "value"),
    "InvalidSurface": ("FormError", "value"),
    "InvalidCell": ("FormError", "value"),
    "InvalidRect": ("FormError", "value"),
    "InvalidNumber": ("FormError", "value"),
    "InvalidColour": ("FormError", "value"),
    "InvalidPairs": ("FormError", "value"),
    "InvalidForm": ("FormError", "value"),
    "InvalidPatch": ("FormError", "index"),
    "InvalidPass": ("FormError", "index"),
    "InvalidEdit": ("FormError", "index"),
    "InvalidOrder": ("FormError", "path"),
    "InvalidText": ("FormError", "line"),
    "InvalidLine": ("FormError", "value"),
    "NotAScript": ("FormError", "value"),
    "NotAPicture": ("FormError", "value"),
    "StateError": (LookupError, None),
    "DifferentStages": ("StateError", None),
    "UsesKeys": ("StateError", None),
    "NoBeginning": ("StateError", None),
    "Guarded": ("StateError", "name"),
    "Busy": ("StateError", None),
    "NothingToUndo": ("StateError", None),
    "LimitError": (ArithmeticError, None),
    "TooManyOrders": ("LimitError", "found"),
    "TooManyCopies": ("LimitError", "found"),
    "TooManyKeys": ("LimitError", "found"),
    "TooManyRecolours": ("LimitError", "found"),
    "TooManyEdits": ("LimitError", "found"),
}

VALUES = ODD_VALUES + (0, -1, 10 ** 40, "a", "two words\n", (), (1, (2, "x")), ("a", 0, 0), [1, [2]])


def class_of(name):
    return getattr(errors, name)


def parent_of(name):
    parent = EXPECTED[name][0]
    return class_of(parent) if isinstance(parent, str) else parent


def ancestors_of(name):
    """The classes of the program above the class with this name, itself included."""
    found = [name]
    while isinstance(EXPECTED[found[-1]][0], str):
        found.append(EXPECTED[found[-1]][0])
    return found


def created(name):
    return class_of(name)(7) if EXPECTED[name][1] else class_of(name)()


class ErrorsTest(unittest.TestCase):
    def test_all_classes_are_there_and_no_others(self):
        found = [name for name, value in vars(errors).items() if isinstance(value, type)]
        self.assertEqual(sorted(found), sorted(EXPECTED))

    def test_they_are_defined_in_the_file(self):
        for name in EXPECTED:
            self.assertEqual(class_of(name).__module__, "allscreens.errors")

    def test_the_class_right_above(self):
        for name in EXPECTED:
            with self.subTest(name=name):
                self.assertEqual(class_of(name).__bases__, (parent_of(name),))

    def test_instances_of_the_classes_above_and_of_no_others(self):
        for name in EXPECTED:
            error = created(name)
            for other in EXPECTED:
                with self.subTest(name=name, other=other):
                    self.assertEqual(isinstance(error, class_of(other)), other in ancestors_of(name))

    def test_instances_of_the_builtin_classes(self):
        for name in EXPECTED:
            error = created(name)
            above = EXPECTED[ancestors_of(name)[-1]][0]
            for builtin in (ValueError, LookupError, ArithmeticError):
                with self.subTest(name=name, builtin=builtin):
                    self.assertEqual(isinstance(error, builtin), builtin is above)

    def test_the_attribute_by_position(self):
        for name, (_, attribute) in EXPECTED.items():
            for value in VALUES if attribute else ():
                with self.subTest(name=name, value=value):
                    error = class_of(name)(value)
                    self.assertIs(getattr(error, attribute), value)
                    self.assertEqual(list(vars(error)), [attribute])

    def test_the_attribute_by_name(self):
        for name, (_, attribute) in EXPECTED.items():
            for value in VALUES if attribute else ():
                with self.subTest(name=name, value=value):
                    error = class_of(name)(**{attribute: value})
                    self.assertIs(getattr(error, attribute), value)
                    self.assertEqual(list(vars(error)), [attribute])

    def test_without_an_attribute(self):
        for name, (_, attribute) in EXPECTED.items():
            if attribute is None:
                with self.subTest(name=name):
                    self.assertEqual(vars(class_of(name)()), {})

    def test_each_object_has_its_own_attribute(self):
        first, second = errors.InvalidRect(1), errors.InvalidRect(2)
        self.assertEqual((first.value, second.value), (1, 2))

    def test_raised_and_caught_by_the_classes_above(self):
        for name in EXPECTED:
            for above in [class_of(each) for each in ancestors_of(name)] + [parent_of(ancestors_of(name)[-1])]:
                with self.subTest(name=name, above=above):
                    with self.assertRaises(above) as caught:
                        raise created(name)
                    self.assertIs(type(caught.exception), class_of(name))

    def test_the_attribute_is_the_one_named(self):
        for name, (_, attribute) in EXPECTED.items():
            if attribute:
                with self.subTest(name=name):
                    self.assertRaises(TypeError, class_of(name))
                    self.assertRaises(TypeError, class_of(name), 1, 2)


if __name__ == "__main__":
    unittest.main()
