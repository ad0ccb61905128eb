"""Tests of partkeepers.errors: the classes, their bases and their fields."""

import unittest

from partkeepers import errors

# name: (base class, fields with the values to make it with)
FIELDS = {
    "BadLayout": ("KeeperError", {}),
    "BadKey": ("KeeperError", {"key": 8}),
    "NoCopy": ("KeeperError", {"copy": -1}),
    "NotKept": ("KeeperError", {"copy": 2, "key": 5}),
    "BadCount": ("KeeperError", {"triple": (1, 1, 2)}),
    "BadValue": ("KeeperError", {"value": 1000000}),
    "BadLetter": ("KeeperError", {}),
    "Lacking": ("KeeperError", {"other": 3, "needed": 2, "present": 1}),
    "LineError": ("KeeperError", {"sender": 4, "taker": 0}),
    "NoLine": ("LineError", {"sender": 4, "taker": 0}),
    "HeldBack": ("LineError", {"sender": 4, "taker": 0}),
    "NoLetter": ("LineError", {"sender": 4, "taker": 0}),
    "LineFull": ("LineError", {"sender": 4, "taker": 0}),
    "TooEarly": ("LineError", {"sender": 1, "taker": 2, "lacking": ((0, 1, 0), (3, 2, 1))}),
    "NoChain": ("KeeperError", {"chain": (0, 1, 2)}),
    "NoWrite": ("KeeperError", {"asked": 7}),
    "NoMiss": ("KeeperError", {}),
}


class ErrorsTest(unittest.TestCase):
    def test_base_of_all(self):
        self.assertEqual(errors.KeeperError.__bases__, (ValueError,))

    def test_module_has_exactly_these_classes(self):
        classes = {name for name in vars(errors) if isinstance(vars(errors)[name], type)}
        self.assertEqual(classes, {"KeeperError", *FIELDS})

    def test_base_classes(self):
        for name, (base, _) in FIELDS.items():
            with self.subTest(name):
                made = getattr(errors, name)
                self.assertEqual(made.__module__, "partkeepers.errors")
                self.assertEqual(made.__bases__, (getattr(errors, base),))
                self.assertTrue(issubclass(made, errors.KeeperError))
                self.assertTrue(issubclass(made, ValueError))

    def test_fields_by_position(self):
        for name, (_, fields) in FIELDS.items():
            with self.subTest(name):
                error = getattr(errors, name)(*fields.values())
                self.assertEqual(vars(error), fields)

    def test_fields_by_name(self):
        for name, (_, fields) in FIELDS.items():
            with self.subTest(name):
                error = getattr(errors, name)(**fields)
                self.assertEqual(vars(error), fields)

    def test_errors_can_be_shown(self):
        for name, (_, fields) in FIELDS.items():
            with self.subTest(name):
                self.assertIsInstance(str(getattr(errors, name)(*fields.values())), str)

    def test_caught_by_each_base(self):
        for base in (errors.TooEarly, errors.LineError, errors.KeeperError, ValueError):
            with self.subTest(base), self.assertRaises(base) as caught:
                raise errors.TooEarly(1, 2, ((0, 1, 0),)) from errors.Lacking(0, 1, 0)
            cause = caught.exception.__cause__
            self.assertEqual((cause.other, cause.needed, cause.present), (0, 1, 0))

    def test_line_errors_are_apart(self):
        names = ("NoLine", "HeldBack", "NoLetter", "LineFull", "TooEarly")
        for name in names:
            for other in names:
                made = issubclass(getattr(errors, name), getattr(errors, other))
                self.assertEqual(made, name == other)


if __name__ == "__main__":
    unittest.main()
