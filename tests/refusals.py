"""Wrong values of every kind, and a test case that looks at the errors for them."""

import unittest

from lengthstell.book.desks import Desk, Lot
from lengthstell.errors import (
    InvalidNumber,
    NothingToUndo,
    ParseError,
    Refused,
    TooMany,
    UnknownName,
)
from lengthstell.frame.frames import Frame
from lengthstell.ground.stands import Stand
from lengthstell.text.shell import Shell
from tests.examples import FOUR, KITE, SINGLE, SQUARE, TOO_LONG

KEPT = {
    InvalidNumber: "given",
    UnknownName: "wanted",
    TooMany: "most",
    Refused: "reason",
    NothingToUndo: "count",
    ParseError: "spot",
}


def nested(value, deep):
    """The value in so many tuples, lists and dicts."""
    for at in range(deep):
        value = ((value,), [value], {"a": value})[at % 3]
    return value


WRONG = (
    None, True, False, 0, 1, 2, 3, -1, 7, TOO_LONG, -TOO_LONG, 10 ** 2999,
    "", "a", "ab", "abcde", "A", "a1", "a\tb\n", "~" * 3000, "a" * 3000,
    (), [], {}, (None,), (True,), (1,), (1, 2), ("a", "b"), ["a", "b"], ("b", "a"), ("a", "a"),
    ("a",), ["a"], ("a", None), ("a", 1), ("a", TOO_LONG), ("a", "abcde"), ("a", ["b"]),
    (("a", "b"),), [("a", "b")], (["a", "b"],), ((("a", "b"),),), ((1, 2), (3, 4)),
    [[1, 2], [3, 4]], ((True, 2), (3, 4)), ((1, 2), (3,)), ((TOO_LONG,),), ((),),
    {"a": 1}, {"a": (1, 2)}, {"a": [1, 2]}, {("a", "b"): 1}, {1: 2}, {None: (0, 0)},
    {True: False}, {("a", ("b",)): None}, SQUARE, (SQUARE, SQUARE), [SQUARE],
    nested(1, 9), nested((), 9), nested("a", 9), nested({}, 8),
    FOUR, KITE, SINGLE, (FOUR,), [FOUR], {"a": FOUR}, ("a", FOUR), (("a", FOUR),),
    Frame(("x",)), UnknownName("a"), InvalidNumber(1), (TooMany(8),),
    Stand(FOUR, {"a": 2}), (Stand(SINGLE, {}),), ("rod", "a", "b"), ("slide", "a", True), (("rod", "a", "b"),),
    (("slide", "a", False),), {("slide", "a", True): "a"}, {"a": ((1, 0), (0, 1))}, (SQUARE, {}), (SQUARE, {"a": ((0, 0),)}),
    (("a",), ()), ((), ("b", "a")), {"a": True}, {"z": 1}, Desk(FOUR), Desk(FOUR).lot(), Shell(SINGLE), (Desk(SINGLE),),
    ("firm", True), ("told", 3), ("few", 29), ("rod", ("b", "a")), ("pin", "a", ("b", "b")),
)


def wrong_values(is_valid):
    """All wrong values but those that are valid in some place."""
    return [value for value in WRONG if not is_valid(value)]


def told(value):
    """What can be seen of a value, to compare it with what it is later."""
    if isinstance(value, Frame):
        return ("frame", value.pins, value.rods)
    if isinstance(value, Stand):
        return ("stand", told(value.frame), told(value.slides), value.ties)
    if isinstance(value, (Desk, Shell)):
        return (value.__class__.__name__, told(value.frame), value.promises, value.version, len(value))
    if isinstance(value, Lot):
        return ("lot", told(value.frame), value.is_open)
    if isinstance(value, dict):
        return ("dict", [(told(key), told(value[key])) for key in value])
    if isinstance(value, (tuple, list)):
        return (value.__class__.__name__, [told(item) for item in value])
    return (value.__class__.__name__, value)


def as_shown(value):
    """A short text of a value, for messages."""
    text = str(told(value)) if not isinstance(value, int) else f"{value % 10 ** 9}.."
    return text[:80]


class Refusals(unittest.TestCase):
    """Looks at errors: just of the told class, and with what they keep."""

    def refused(self, error, call, *args, kept=None, **keywords):
        """Sees that a call is refused with just this error; returns the error."""
        with self.assertRaises(error) as caught:
            call(*args, **keywords)
        self.assertIs(caught.exception.__class__, error)
        if kept is not None:
            self.assertEqual(getattr(caught.exception, KEPT[error]), kept)
        return caught.exception

    def check_arguments(self, call, places, keywords=None):
        """Tries all wrong values at each place, and wrong values at two places at once.

        Each place is a tuple of a valid value, of the error that other values
        raise, and of a function that tells which other values are valid.
        """
        keywords = keywords or {}
        names = [None] * len(places) + list(keywords)
        places = list(places) + list(keywords.values())
        for at in range(len(places)):
            self._try_wrong_at(call, names, places, at)
        for first in range(len(places)):
            for second in range(first + 1, len(places)):
                self._try_two(call, names, places, first, second)

    def _call(self, call, names, values):
        args = [value for name, value in zip(names, values) if name is None]
        keywords = {name: value for name, value in zip(names, values) if name is not None}
        return call(*args, **keywords)

    def _try_wrong_at(self, call, names, places, at):
        _, error, is_valid = places[at]
        if error is None:
            return
        values = [place[0] for place in places]
        before = told(values)
        for wrong in wrong_values(is_valid):
            with self.subTest(call=call.__name__, at=at, wrong=as_shown(wrong)):
                shown = told(wrong)
                tried = values[:at] + [wrong] + values[at + 1:]
                with self.assertRaises(error) as caught:
                    self._call(call, names, tried)
                self.assertIs(caught.exception.__class__, error)
                if error in KEPT:
                    self.assertIs(getattr(caught.exception, KEPT[error]), wrong)
                self.assertEqual(told(wrong), shown)
        self.assertEqual(told(values), before)

    def _try_two(self, call, names, places, first, second):
        if places[first][1] is None or places[second][1] is None:
            return
        values = [place[0] for place in places]
        for at in (first, second):
            values[at] = wrong_values(places[at][2])[0]
        with self.subTest(call=call.__name__, first=first, second=second):
            with self.assertRaises(places[first][1]) as caught:
                self._call(call, names, values)
            error = caught.exception
            self.assertIs(error.__class__, places[first][1])
            if error.__class__ in KEPT:
                self.assertIs(getattr(error, KEPT[error.__class__]), values[first])


def is_frame(value):
    return isinstance(value, Frame)


def is_stand(value):
    return isinstance(value, Stand)


def is_space_number(value):
    return isinstance(value, int) and not isinstance(value, bool) and value in (1, 2)


def never(_):
    return False
