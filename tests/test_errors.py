"""Section 2 and the interface: the errors."""

import unittest

from tests.values import odd_integers, odd_values
from wordreach import errors
from wordreach.errors import (
    CommandError, EmptyProgram, Full, HasDown, InvalidOperand, InvalidShape, InvalidWords, NoPlace, NotComputed,
    NothingToUndo, ParseError, ReachError, TooLow, TooMany, UnknownName,
)

WITH_VALUE = (
    (UnknownName, "value"), (NoPlace, "value"), (InvalidWords, "value"), (NotComputed, "value"), (TooLow, "value"),
    (TooMany, "value"), (HasDown, "index"), (InvalidOperand, "value"), (InvalidShape, "value"), (ParseError, "index"),
    (CommandError, "command"), (Full, "value"),
)
WITHOUT_VALUE = (EmptyProgram, NothingToUndo)
ALL = tuple(error for error, _ in WITH_VALUE) + WITHOUT_VALUE


class Errors(unittest.TestCase):
    def test_names(self):
        found = {name for name, thing in vars(errors).items() if isinstance(thing, type)}
        self.assertEqual(found, {error.__name__ for error in ALL} | {"ReachError"})
        self.assertEqual(len(ALL), 14)

    def test_bases(self):
        self.assertEqual(ReachError.__bases__, (ValueError,))
        for error in ALL:
            with self.subTest(error=error.__name__):
                self.assertEqual(error.__bases__, (ReachError,))
                self.assertEqual(error.__module__, "wordreach.errors")

    def test_none_is_another(self):
        for error in ALL:
            for other in ALL:
                with self.subTest(error=error.__name__, other=other.__name__):
                    self.assertEqual(issubclass(error, other), error is other)

    def test_value_by_position_and_by_name(self):
        for error, name in WITH_VALUE:
            for value in odd_values() + odd_integers() + [0, 1]:
                with self.subTest(error=error.__name__):
                    made = error(value)
                    self.assertIs(getattr(made, name), value)
                    self.assertEqual(list(vars(made)), [name])
                    named = error(**{name: value})
                    self.assertIs(getattr(named, name), value)
                    self.assertEqual(list(vars(named)), [name])

    def test_values_are_required(self):
        for error, name in WITH_VALUE:
            other = "index" if name == "value" else "value"
            with self.subTest(error=error.__name__):
                self.assertRaises(TypeError, error)
                self.assertRaises(TypeError, error, 1, 2)
                self.assertRaises(TypeError, error, **{other: 1})

    def test_without_value(self):
        for error in WITHOUT_VALUE + (ReachError,):
            with self.subTest(error=error.__name__):
                self.assertEqual(vars(error()), {})

    def test_raised_and_caught(self):
        for error, name in WITH_VALUE:
            with self.subTest(error=error.__name__):
                with self.assertRaises(error) as caught:
                    raise error([1])
                self.assertEqual(getattr(caught.exception, name), [1])
                for base in (ReachError, ValueError):
                    with self.assertRaises(base):
                        raise error(**{name: {}})
        for error in WITHOUT_VALUE:
            for base in (error, ReachError, ValueError):
                with self.assertRaises(base):
                    raise error()

    def test_shown(self):
        # The wording is free, but no value may keep an error from being shown.
        for error, name in WITH_VALUE:
            for value in odd_values():
                for made in (error(value), error(**{name: value})):
                    self.assertIsInstance(str(made), str)
                    self.assertIsInstance(repr(made), str)
        for error in WITHOUT_VALUE + (ReachError,):
            self.assertIsInstance(str(error()), str)
            self.assertIsInstance(repr(error()), str)


if __name__ == "__main__":
    unittest.main()
