"""Point 2: the classes of refusal."""

import unittest

from spanshelf import errors

REFUSALS = [
    "NoSpan",
    "NoPlace",
    "NoCover",
    "NoWeight",
    "NoCount",
    "NoName",
    "Twice",
    "Full",
    "Bare",
    "NoDeed",
    "NoText",
    "NoLine",
]


class ErrorsTest(unittest.TestCase):
    def test_shelf_error_stands_straight_under_value_error(self):
        self.assertEqual(errors.ShelfError.__bases__, (ValueError,))

    def test_each_refusal_stands_straight_under_shelf_error(self):
        for name in REFUSALS:
            with self.subTest(name):
                self.assertEqual(getattr(errors, name).__bases__, (errors.ShelfError,))

    def test_no_two_names_are_one_class(self):
        classes = {getattr(errors, name) for name in REFUSALS}
        self.assertEqual(len(classes), 12)
        for name in REFUSALS + ["ShelfError"]:
            self.assertEqual(getattr(errors, name).__name__, name)

    def test_made_of_one_text_or_of_nothing(self):
        for name in REFUSALS + ["ShelfError"]:
            with self.subTest(name):
                kind = getattr(errors, name)
                self.assertEqual(str(kind()), "")
                self.assertEqual(str(kind("why not")), "why not")
                self.assertEqual(str(kind("")), "")

    def test_caught_by_the_classes_above_and_by_no_sister(self):
        for name in REFUSALS:
            with self.subTest(name):
                kind = getattr(errors, name)
                for above in (kind, errors.ShelfError, ValueError):
                    with self.assertRaises(above):
                        raise kind("why")
                for sister in REFUSALS:
                    if sister != name:
                        self.assertFalse(issubclass(kind, getattr(errors, sister)))


if __name__ == "__main__":
    unittest.main()
