"""The error classes: where they stand, and what they keep."""

import unittest

from boundedlevels import errors

VALUES = {
    "BadText": ("place",), "BadLine": ("number",), "Crossed": ("low", "high"), "NoShift": (),
    "NoPlace": ("place",), "NothingDone": (), "Unlike": (), "NoStarts": ("low", "high"), "Gainsaid": (),
    "NoName": ("name",), "Taken": ("name",), "Outside": ("number",), "Needed": ("name",), "Ring": ("name",),
    "NotBehind": ("other",),
}


class Errors(unittest.TestCase):
    def test_level_error_stands_directly_under_value_error(self):
        self.assertEqual(errors.LevelError.__bases__, (ValueError,))
        self.assertEqual(errors.LevelError.__module__, "boundedlevels.errors")

    def test_each_stands_directly_under_level_error(self):
        for name in VALUES:
            with self.subTest(name=name):
                self.assertEqual(getattr(errors, name).__bases__, (errors.LevelError,))
                self.assertEqual(getattr(errors, name).__module__, "boundedlevels.errors")
                self.assertEqual(getattr(errors, name).__name__, name)

    def test_each_keeps_its_values_by_place(self):
        for name, values in VALUES.items():
            with self.subTest(name=name):
                given = [object() for _ in values]
                error = getattr(errors, name)(*given)
                self.assertEqual([getattr(error, value) for value in values], given)
                self.assertEqual(sorted(vars(error)), sorted(values))

    def test_each_keeps_its_values_by_name(self):
        for name, values in VALUES.items():
            with self.subTest(name=name):
                given = {value: object() for value in reversed(values)}
                self.assertEqual(vars(getattr(errors, name)(**given)), given)

    def test_each_is_raised_and_caught_as_a_level_error(self):
        for name, values in VALUES.items():
            with self.subTest(name=name), self.assertRaises(errors.LevelError) as caught:
                raise getattr(errors, name)(*values)
            self.assertIsInstance(caught.exception, ValueError)

    def test_each_asks_for_its_values(self):
        for name, values in VALUES.items():
            if values:
                with self.subTest(name=name), self.assertRaises(TypeError):
                    getattr(errors, name)(*values[1:])

    def test_no_other_errors(self):
        classes = {name for name, value in vars(errors).items() if isinstance(value, type)}
        self.assertEqual(classes, set(VALUES) | {"LevelError"})


if __name__ == "__main__":
    unittest.main()
