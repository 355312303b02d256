"""Points 4 and 6: the error classes."""

import copy
import unittest

from bitshades import errors

WITH_ATTRIBUTE = {
    "WrongKind": ("argument", "width"),
    "WrongSize": ("argument", "bits"),
    "OutOfRange": ("argument", "chosen"),
    "BadText": ("position", 5),
    "Spent": ("allowed", 12),
    "TooFewPlaces": ("places_found", [0, 2, 5]),
    "WrongPaper": ("paper_of", "nearest"),
    "UnknownName": ("missing", "f"),
    "NameTaken": ("taken", "g"),
}
WITHOUT_ATTRIBUTE = ("NotATable", "NothingToUndo", "BookFull")


class ErrorClasses(unittest.TestCase):
    def test_base_class(self):
        self.assertEqual(errors.ShadeError.__bases__, (ValueError,))
        for name in list(WITH_ATTRIBUTE) + list(WITHOUT_ATTRIBUTE):
            with self.subTest(name):
                self.assertEqual(getattr(errors, name).__bases__, (errors.ShadeError,))

    def test_all_classes_are_made_here(self):
        for name in ["ShadeError"] + list(WITH_ATTRIBUTE) + list(WITHOUT_ATTRIBUTE):
            self.assertIsInstance(getattr(errors, name), type)
            self.assertEqual(getattr(errors, name).__module__, "bitshades.errors")
            self.assertEqual(getattr(errors, name).__name__, name)

    def test_attribute_by_position(self):
        for name, (attribute, value) in WITH_ATTRIBUTE.items():
            with self.subTest(name):
                error = getattr(errors, name)(value)
                self.assertEqual(getattr(error, attribute), value)
                self.assertIs(type(getattr(error, attribute)), type(value))
                self.assertEqual(vars(error), {attribute: value})

    def test_without_attribute(self):
        for name in WITHOUT_ATTRIBUTE:
            with self.subTest(name):
                self.assertEqual(vars(getattr(errors, name)()), {})

    def test_raised_and_caught_as_base(self):
        for name, (attribute, value) in WITH_ATTRIBUTE.items():
            with self.subTest(name):
                with self.assertRaises(errors.ShadeError) as caught:
                    raise getattr(errors, name)(value)
                self.assertEqual(getattr(caught.exception, attribute), value)
        for name in WITHOUT_ATTRIBUTE:
            with self.assertRaises(ValueError):
                raise getattr(errors, name)()

    def test_own_copy_of_the_list(self):
        places = [1, 3, 4]
        error = errors.TooFewPlaces(places)
        self.assertIsNot(error.places_found, places)
        places.append(5)
        places[0] = 0
        self.assertEqual(error.places_found, [1, 3, 4])

    def test_no_part_of_the_error_is_the_callers_list(self):
        places = [1, 3, 4]
        error = errors.TooFewPlaces(places)
        self.assertFalse(any(item is places for item in error.args))

    def test_empty_list_and_tuple_of_places(self):
        self.assertEqual(errors.TooFewPlaces([]).places_found, [])
        self.assertEqual(errors.TooFewPlaces((0, 1)).places_found, [0, 1])

    def test_copies_keep_the_attribute(self):
        for name, (attribute, value) in WITH_ATTRIBUTE.items():
            with self.subTest(name):
                self.assertEqual(getattr(copy.deepcopy(getattr(errors, name)(value)), attribute), value)


if __name__ == "__main__":
    unittest.main()
