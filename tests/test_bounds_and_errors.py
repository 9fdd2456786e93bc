"""The bounds and errors of the interface."""

import unittest

from unsureworks import bounds, errors

BOUNDS = {
    "MAX_DRAWS": 3, "MAX_LONG": 12, "MAX_BOXES": 12, "MAX_GREAT": 10 ** 6, "MAX_LINES": 12, "MAX_CHOICES": 4,
    "MAX_COMPARED": 4, "MAX_NESTED": 40, "MAX_MATTER": 6, "MAX_MATTER_THREE": 4, "MAX_BODY": 12, "MAX_CELLS": 81,
    "MAX_PAIRS": 100, "MAX_DEGREE": 40, "MAX_OFTEN": 16, "MAX_STEPS": 400, "MAX_EDITS": 40, "BATCH": 12,
}

ERRORS = {
    "Unfit": None, "TooMany": "limit", "NoQuotient": None, "NoChance": None, "BadText": "place",
    "BadSpread": "error", "BadWorld": "error", "BadProgram": "error", "BadSaying": "error", "BelowAt": "place",
    "NoPoint": "paper", "Endless": None, "Shared": "draw", "NotParts": "name", "BadName": "given", "InUse": "name",
    "Rings": "name", "BadBatch": None, "Rejected": "place", "TooManyEdits": None, "NothingToUndo": None,
    "NothingToRedo": None, "NoVersion": "given", "Changed": "chance",
}


class TestBounds(unittest.TestCase):

    def test_each_bound(self):
        for name, worth in BOUNDS.items():
            with self.subTest(name):
                self.assertIs(type(getattr(bounds, name)), int)
                self.assertEqual(getattr(bounds, name), worth)


class TestErrors(unittest.TestCase):

    def test_what_they_stand_under(self):
        self.assertEqual(errors.UnsureError.__bases__, (ValueError,))
        for name in ERRORS:
            with self.subTest(name):
                self.assertEqual(getattr(errors, name).__bases__, (errors.UnsureError,))
                self.assertEqual(getattr(errors, name).__module__, "unsureworks.errors")

    def test_no_class_twice(self):
        self.assertEqual(len({getattr(errors, name) for name in ERRORS}), len(ERRORS))

    def test_without_arguments(self):
        for name in [name for name, argument in ERRORS.items() if argument is None]:
            with self.subTest(name):
                with self.assertRaises(getattr(errors, name)) as caught:
                    raise getattr(errors, name)()
                self.assertEqual(vars(caught.exception), {})

    def test_arguments_are_kept(self):
        listed = [1, [2]]
        for name, argument in ERRORS.items():
            if argument is None:
                continue
            for given in (0, -1, None, True, "a", "", (1, 2), ("lump", 0), listed, {"a": listed}, 10 ** 5000, (((),),)):
                with self.subTest(name):
                    for error in (getattr(errors, name)(given), getattr(errors, name)(**{argument: given})):
                        self.assertIs(getattr(error, argument), given)
                        self.assertEqual(vars(error), {argument: given})
                        with self.assertRaises(errors.UnsureError) as caught:
                            raise error
                        self.assertIs(caught.exception, error)
                        self.assertIs(getattr(caught.exception, argument), given)
        self.assertEqual(listed, [1, [2]])

    def test_errors_are_told_apart(self):
        for name in ERRORS:
            for other in ERRORS:
                with self.subTest((name, other)):
                    self.assertEqual(issubclass(getattr(errors, name), getattr(errors, other)), name == other)


if __name__ == "__main__":
    unittest.main()
