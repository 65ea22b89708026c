"""[4]: the errors, their bases and their attributes."""

import inspect
import unittest

from growntexts import errors

WITH_ARGUMENT = {
    "InvalidSetting": "word",
    "InvalidProgram": "word",
    "InvalidShape": "word",
    "InvalidText": "at",
    "InvalidInput": "at",
    "InvalidRow": "at",
    "InvalidPair": "word",
    "Refused": "at",
    "NoMode": "mode",
}


class ErrorsTest(unittest.TestCase):
    def test_all_errors_are_there_and_no_others(self):
        found = {name for name, value in vars(errors).items() if inspect.isclass(value)}
        self.assertEqual(found, set(WITH_ARGUMENT) | {"GrowError", "InvalidCommand"})

    def test_bases(self):
        self.assertEqual(errors.GrowError.__bases__, (ValueError,))
        self.assertEqual(errors.NoMode.__bases__, (IndexError,))
        for name in set(WITH_ARGUMENT) - {"NoMode"} | {"InvalidCommand"}:
            self.assertEqual(getattr(errors, name).__bases__, (errors.GrowError,), name)

    def test_arguments_are_kept_themselves(self):
        things = [0, -7, None, True, "word", [1, [2]], ("a",), {"k": 1}, object(), errors.NoMode(3), float("nan")]
        for name, parameter in WITH_ARGUMENT.items():
            make = getattr(errors, name)
            for thing in things:
                self.assertIs(getattr(make(thing), parameter), thing, name)
                self.assertIs(getattr(make(**{parameter: thing}), parameter), thing, name)

    def test_lists_are_kept_and_not_copied(self):
        row = [1]
        error = errors.NoMode(row)
        row.append(2)
        self.assertEqual(error.mode, [1, 2])

    def test_parameters(self):
        for name, parameter in WITH_ARGUMENT.items():
            parameters = inspect.signature(getattr(errors, name)).parameters
            self.assertEqual(list(parameters), [parameter], name)
            self.assertIs(parameters[parameter].default, inspect.Parameter.empty, name)

    def test_errors_without_arguments(self):
        self.assertEqual(vars(errors.InvalidCommand()), {})
        self.assertEqual(vars(errors.GrowError()), {})

    def test_one_error_does_not_catch_another_one(self):
        with self.assertRaises(errors.InvalidText):
            try:
                raise errors.InvalidText(1)
            except (errors.InvalidInput, errors.InvalidProgram, errors.NoMode, IndexError):
                self.fail("caught by another error")

    def test_errors_are_not_iterable(self):
        for name in WITH_ARGUMENT:
            with self.assertRaises(TypeError):
                iter(getattr(errors, name)([1, 2]))


if __name__ == "__main__":
    unittest.main()
