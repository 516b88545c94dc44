"""Promises 1.1 and 1.2, and 0.3 for the errors."""

import unittest

from lengthstell import errors
from lengthstell.errors import (
    FrameError,
    InvalidDirections,
    InvalidFrame,
    InvalidName,
    InvalidNumber,
    InvalidOperation,
    InvalidPlacing,
    InvalidPromise,
    InvalidRod,
    InvalidStand,
    InvalidStep,
    InvalidWeights,
    NothingToUndo,
    ParseError,
    Refused,
    TooMany,
    UnknownName,
)
from tests.examples import FOUR, TOO_LONG

WITH_MESSAGE = (
    InvalidName, InvalidFrame, InvalidRod, InvalidPlacing, InvalidWeights, InvalidStep,
    InvalidStand, InvalidDirections, InvalidPromise, InvalidOperation,
)

KEEPING = (
    (ParseError, FrameError, "spot"),
    (InvalidNumber, IndexError, "given"),
    (UnknownName, KeyError, "wanted"),
    (TooMany, OverflowError, "most"),
    (Refused, ArithmeticError, "reason"),
    (NothingToUndo, LookupError, "count"),
)


class ErrorsTest(unittest.TestCase):

    def test_bases(self):
        self.assertEqual(FrameError.__bases__, (ValueError,))
        for error in WITH_MESSAGE:
            self.assertEqual(error.__bases__, (FrameError,))
        for error, base, _ in KEEPING:
            self.assertEqual(error.__bases__, (base,))

    def test_seventeen_errors_defined_here(self):
        found = [value for value in vars(errors).values() if isinstance(value, type)]
        self.assertEqual(len(found), 17)
        for error in found:
            self.assertEqual(error.__module__, "lengthstell.errors")

    def test_errors_with_a_message(self):
        for error in (FrameError,) + WITH_MESSAGE:
            with self.assertRaises(error) as caught:
                raise error("a message")
            self.assertEqual(caught.exception.args, ("a message",))

    def test_errors_that_keep_any_value(self):
        kept = [None, True, 5, -TOO_LONG, "a" * 3000, (), [1, [2]], {"a": {}}, FOUR, ("cut", ("a",))]
        for error, _, name in KEEPING:
            for value in kept:
                with self.assertRaises(error) as caught:
                    raise error(value)
                self.assertIs(getattr(caught.exception, name), value)
                self.assertIs(getattr(error(**{name: value}), name), value)


if __name__ == "__main__":
    unittest.main()
