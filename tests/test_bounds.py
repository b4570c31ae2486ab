"""The bounds and the errors of the interface."""
import unittest

from tests.support import any_values
from whateverothers import bounds, errors

BARE_NAMES = ("Unfit", "BadText", "NothingToUndo", "TooManyEdits")
FIELDS = {"BadBoard": "error", "BadOrders": "error", "TooMany": "limit", "NotNow": "phase", "BadLog": "place"}


class Bounds(unittest.TestCase):
    def test_each_is_as_told(self):
        told = {"MAX_FIELDS": 24, "MAX_PLAYERS": 6, "MAX_PIECES": 16, "MAX_HIDDEN": 2, "MAX_TRIED": 20000,
                "MAX_YEARS": 30, "MAX_EDITS": 160}
        self.assertEqual(told, {name: getattr(bounds, name) for name in dir(bounds) if name.startswith("MAX")})


class Errors(unittest.TestCase):
    def test_each_is_directly_under_order_error(self):
        self.assertEqual((ValueError,), errors.OrderError.__bases__)
        for name in (*BARE_NAMES, *FIELDS):
            with self.subTest(name):
                self.assertEqual((errors.OrderError,), getattr(errors, name).__bases__)

    def test_there_are_no_others(self):
        kinds = [name for name in dir(errors) if isinstance(getattr(errors, name), type)]
        self.assertEqual(sorted(("OrderError", *BARE_NAMES, *FIELDS)), sorted(kinds))

    def test_those_without_arguments(self):
        for name in BARE_NAMES:
            with self.subTest(name), self.assertRaises(getattr(errors, name)) as caught:
                raise getattr(errors, name)()
            self.assertEqual({}, vars(caught.exception))

    def test_arguments_are_kept_as_they_were_passed(self):
        for name, field in FIELDS.items():
            kind = getattr(errors, name)
            for value in (*any_values(), object(), kind(1)):
                with self.subTest(name=name):
                    self.assertIs(value, getattr(kind(value), field))
                    self.assertIs(value, getattr(kind(**{field: value}), field))
                    self.assertEqual([field], list(vars(kind(value))))

    def test_arguments_are_kept_when_raised(self):
        for name, field in FIELDS.items():
            kind, value = getattr(errors, name), ["kept"]
            with self.subTest(name), self.assertRaises(errors.OrderError) as caught:
                raise kind(value)
            self.assertIs(value, getattr(caught.exception, field))
            self.assertIs(kind, caught.exception.__class__)

    def test_arguments_are_asked_for(self):
        for name, field in FIELDS.items():
            with self.subTest(name):
                self.assertRaises(TypeError, getattr(errors, name))
                self.assertRaises(TypeError, getattr(errors, name), 1, 2)
                self.assertRaises(TypeError, getattr(errors, name), **{field + "s": 1})


if __name__ == "__main__":
    unittest.main()
