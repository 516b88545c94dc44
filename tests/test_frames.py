"""Frames: promise 2.1, and 0.2, 0.4 and 0.8 as far as they concern frames."""

import itertools
import random
import unittest

from lengthstell.errors import (
    InvalidFrame,
    InvalidName,
    InvalidOperation,
    InvalidRod,
    TooMany,
    UnknownName,
)
from lengthstell.frame import frames
from lengthstell.frame.frames import Frame
from tests.examples import (
    EIGHT,
    FOUR,
    KITE,
    LOOSE_EIGHT,
    NAMED,
    SINGLE,
    THREES,
    TWIN,
    WHEEL,
    pairs,
    random_frame,
)
from tests.refusals import WRONG, Refusals, is_frame, told, wrong_values


def is_name_like(value):
    return isinstance(value, str) and 1 <= len(value) <= 4 and all("a" <= x <= "z" for x in value)


def are_pins(value):
    return (
        isinstance(value, tuple) and 1 <= len(value) <= 8
        and all(is_name_like(name) for name in value) and len(set(value)) == len(value)
    )


class FrameTest(Refusals):

    def test_constant(self):
        self.assertEqual(frames.MAX_PINS, 8)

    def test_examples(self):
        found = [
            KITE.missing, KITE.neighbours("c"), ("a", "b") in KITE, ("b", "a") in KITE, len(KITE),
            str(KITE), KITE.with_rod("d", "c") == FOUR, Frame(("b", "a")).pins,
        ]
        self.assertEqual(found, [
            (("c", "d"),), ("a", "b"), True, False, 5, "frame of 4 pins, 5 rods", True, ("a", "b"),
        ])
        found = [
            str(KITE.without_pin("a")), KITE.part(("a", "c", "d")).rods,
            list(Frame.full(("a", "b", "c"))), str(KITE | WHEEL), Frame(("a",)).is_full,
        ]
        self.assertEqual(found, [
            "frame of 3 pins, 2 rods", (("a", "c"), ("a", "d")),
            [("a", "b"), ("a", "c"), ("b", "c")], "frame of 5 pins, 9 rods", True,
        ])
        ring = Frame(("b", "c", "d", "e"), pairs("bc be cd de"))
        found = [
            ring.coned("a") == WHEEL, ring.with_pin("a", "c", "b").rods[:2],
            ring.renamed({"b": "x", "c": "a", "d": "y", "e": "b"}).rods,
        ]
        self.assertEqual(found, [
            True, (("a", "b"), ("a", "c")), (("a", "x"), ("a", "y"), ("b", "x"), ("b", "y")),
        ])
        self.refused(InvalidRod, KITE.with_rod, "a", "b")

    def test_any_order_of_pins_and_rods(self):
        one = Frame(("c", "a", "b"), pairs("bc ab"))
        self.assertEqual((one.pins, one.rods), (("a", "b", "c"), pairs("ab bc")))
        self.assertEqual(one, Frame(pins=("a", "b", "c"), rods=pairs("ab bc")))
        self.assertEqual(list(one), list(pairs("ab bc")))
        self.assertEqual(Frame(("ab", "a", "b", "aa")).pins, ("a", "aa", "ab", "b"))

    def test_one_pin_and_eight_pins(self):
        self.assertEqual((SINGLE.pins, SINGLE.rods, SINGLE.missing, len(SINGLE)), (("a",), (), (), 0))
        self.assertEqual(str(SINGLE), "frame of 1 pins, 0 rods")
        self.assertEqual((len(EIGHT), EIGHT.missing, EIGHT.is_full), (28, (), True))
        self.assertEqual((len(LOOSE_EIGHT.missing), LOOSE_EIGHT.is_full), (28, False))
        self.assertEqual(LOOSE_EIGHT.missing, EIGHT.rods)
        self.refused(InvalidFrame, Frame, tuple("abcdefghi"))
        self.refused(InvalidFrame, Frame, ())
        self.refused(InvalidFrame, Frame.full, tuple("abcdefghi"))
        self.refused(InvalidFrame, Frame.full, ())

    def test_wrong_frames(self):
        self.check_arguments(Frame, [
            (("a", "b"), InvalidFrame, are_pins),
            ((("a", "b"),), InvalidFrame, lambda value: value in ((), (("a", "b"),))),
        ])
        self.check_arguments(Frame.full, [(("a", "b"), InvalidFrame, are_pins)])
        for pins in (("a", "a"), ["a", "b"], "ab", ("a", "abcde"), ("a", ""), ("a", "B"), {"a": 1}):
            self.refused(InvalidFrame, Frame, pins)
            self.refused(InvalidFrame, Frame.full, pins)
        wrong = (
            pairs("ba"), pairs("aa"), pairs("ab ab"), pairs("ax"), pairs("ab ac ad"), list(pairs("ab")),
            (["a", "b"],), (("a",),), (("a", "b", "c"),), ("ab",), (("a", None),), (("a", True),), None, {},
        )
        for rods in wrong:
            self.refused(InvalidFrame, Frame, ("a", "b", "c"), rods)

    def test_missing_and_rods_make_all_pairs(self):
        for frame in NAMED:
            both = sorted(frame.rods + frame.missing)
            self.assertEqual(both, list(itertools.combinations(frame.pins, 2)))
            self.assertIs(frame.is_full, frame.missing == ())
            self.assertEqual(frame.missing, tuple(sorted(frame.missing)))

    def test_neighbours(self):
        self.assertEqual(WHEEL.neighbours("a"), ("b", "c", "d", "e"))
        self.assertEqual(WHEEL.neighbours("b"), ("a", "c", "e"))
        self.assertEqual(SINGLE.neighbours("a"), ())
        self.check_pin(KITE.neighbours)

    def check_pin(self, call):
        """Sees that a method of a frame with the pins a to d refuses all other values."""
        for wrong in wrong_values(lambda value: isinstance(value, str) and value in ("a", "b", "c", "d")):
            error = self.refused(UnknownName, call, wrong)
            self.assertIs(error.wanted, wrong)

    def test_with_rod_and_without_rod(self):
        ring = WHEEL.without_pin("a")
        self.assertEqual(ring.with_rod("b", "d"), ring.with_rod("d", "b"))
        self.assertEqual(ring.with_rod("b", "d").rods, pairs("bc bd be cd de"))
        self.assertEqual(ring.without_rod("c", "b"), ring.without_rod("b", "c"))
        self.assertEqual(ring.without_rod("c", "b").rods, pairs("be cd de"))
        self.refused(InvalidRod, KITE.with_rod, "b", "a")
        self.refused(InvalidRod, KITE.without_rod, "c", "d")
        self.refused(InvalidRod, KITE.without_rod, "d", "c")
        for call in (KITE.with_rod, KITE.without_rod):
            self.refused(UnknownName, call, "x", "y", kept="x")
            self.refused(UnknownName, call, "a", "y", kept="y")
            self.refused(UnknownName, call, "a", "a", kept="a")
            self.refused(UnknownName, call, "x", "x", kept="x")
            self.check_pin(lambda wrong: call(wrong, "b"))
            self.check_pin(lambda wrong: call("b", wrong))
            self.check_pin(lambda wrong: call(wrong, None))

    def test_rods_by_keyword(self):
        self.assertEqual(KITE.with_rod(one="d", other="c"), FOUR)
        self.assertEqual(FOUR.without_rod(other="c", one="d"), KITE)
        self.assertEqual(KITE.neighbours(pin="c"), ("a", "b"))

    def test_with_pin(self):
        self.assertEqual(KITE.with_pin("x").rods, KITE.rods)
        self.assertEqual(KITE.with_pin("x").pins, ("a", "b", "c", "d", "x"))
        self.assertEqual(KITE.with_pin("aa", "d", "a").rods, tuple(sorted(KITE.rods + (("a", "aa"), ("aa", "d")))))
        self.assertEqual(SINGLE.with_pin("b", "a"), Frame(("a", "b"), pairs("ab")))
        self.assertEqual(KITE.with_pin(pin="x"), KITE.with_pin("x"))

    def test_wrong_pins_more(self):
        for wrong in wrong_values(is_name_like):
            self.refused(InvalidName, KITE.with_pin, wrong)
            self.refused(InvalidName, KITE.with_pin, wrong, "y")
            self.refused(InvalidName, KITE.coned, wrong)
            self.refused(InvalidName, EIGHT.coned, wrong)
        self.check_pin(lambda wrong: KITE.with_pin("x", wrong))
        self.check_pin(lambda wrong: KITE.with_pin("x", "a", "b", wrong, "y"))
        self.refused(UnknownName, KITE.with_pin, "x", "y", "z", kept="y")
        self.refused(UnknownName, KITE.with_pin, "x", "x", kept="x")
        self.refused(UnknownName, KITE.with_pin, "a", "b", "b", "y", kept="y")
        self.refused(InvalidOperation, KITE.with_pin, "a")
        self.refused(InvalidOperation, KITE.with_pin, "a", "b")
        self.refused(InvalidOperation, KITE.with_pin, "x", "b", "b")
        self.refused(InvalidOperation, KITE.coned, "a")
        self.refused(InvalidOperation, EIGHT.with_pin, "a")
        self.refused(InvalidOperation, EIGHT.with_pin, "x", "b", "a", "b")
        self.refused(InvalidOperation, EIGHT.coned, "a")
        self.refused(UnknownName, EIGHT.with_pin, "x", "y", kept="y")
        self.refused(TooMany, EIGHT.with_pin, "x", kept=8)
        self.refused(TooMany, LOOSE_EIGHT.with_pin, "x", "b", "a", kept=8)
        self.refused(TooMany, EIGHT.coned, "x", kept=8)

    def test_coned(self):
        self.assertEqual(SINGLE.coned("b").rods, pairs("ab"))
        self.assertEqual(Frame.full(("b", "c")).coned("a"), Frame.full(("a", "b", "c")))
        self.assertEqual(EIGHT.without_pin("h").coned("h"), EIGHT)

    def test_without_pin(self):
        self.assertEqual(WHEEL.without_pin("b").rods, pairs("ac ad ae cd de"))
        self.assertEqual(Frame(("a", "b"), pairs("ab")).without_pin("a"), Frame(("b",)))
        self.check_pin(KITE.without_pin)
        self.refused(InvalidOperation, SINGLE.without_pin, "a")
        self.refused(UnknownName, SINGLE.without_pin, "b", kept="b")

    def test_part(self):
        self.assertEqual(KITE.part(KITE.pins), KITE)
        self.assertEqual(KITE.part(("c", "d")), Frame(("c", "d")))
        self.assertEqual(KITE.part(lot=("b",)), Frame(("b",)))
        valid = (("a",), ("a", "b"))
        for wrong in wrong_values(lambda value: value in valid):
            self.refused(InvalidOperation, KITE.part, wrong)
        for wrong in ((), ("b", "a"), ("a", "a"), ("a", "x"), ["a"], "a", ("a", None)):
            self.refused(InvalidOperation, KITE.part, wrong)

    def test_renamed(self):
        same = {pin: pin for pin in "dcba"}
        self.assertEqual(KITE.renamed(same), KITE)
        turned = KITE.renamed({"a": "d", "b": "c", "c": "b", "d": "a"})
        self.assertEqual(turned, FOUR.without_rod("a", "b"))
        self.assertEqual(SINGLE.renamed(names={"a": "zzzz"}), Frame(("zzzz",)))
        for wrong in WRONG:
            self.refused(InvalidOperation, KITE.renamed, wrong)
            self.refused(InvalidOperation, KITE.renamed, {"a": "a", "b": "b", "c": "c", "d": ("d", wrong)})
        wrong_dicts = (
            {"a": "x", "b": "y", "c": "z"},
            {"a": "x", "b": "y", "c": "z", "d": "w", "e": "v"},
            {"a": "x", "b": "y", "c": "z", "e": "v"},
            {"a": "x", "b": "y", "c": "z", "d": "x"},
            {"a": "x", "b": "y", "c": "z", "d": "abcde"},
            {"a": "x", "b": "y", "c": "z", "d": None},
            {"a": "x", "b": "y", "c": "z", "d": ["w"]},
            {"a": "x", "b": "y", "c": "z", True: "w"},
        )
        for wrong in wrong_dicts:
            before = told(wrong)
            self.refused(InvalidOperation, KITE.renamed, wrong)
            self.assertEqual(told(wrong), before)

    def test_both_frames(self):
        self.assertEqual(KITE | KITE, KITE)
        self.assertEqual(KITE | Frame(("c", "d"), pairs("cd")), FOUR)
        both = Frame(("a", "b"), pairs("ab")) | Frame(("x", "c"))
        self.assertEqual((both.pins, both.rods), (("a", "b", "c", "x"), pairs("ab")))
        self.assertEqual(Frame(tuple("abcd")) | Frame(tuple("efgh")), LOOSE_EIGHT)
        self.refused(TooMany, lambda: EIGHT | Frame(("x",)), kept=8)
        self.refused(TooMany, lambda: FOUR | Frame(tuple("vwxyz")), kept=8)
        for wrong in wrong_values(is_frame):
            self.refused(InvalidFrame, lambda: EIGHT | wrong)

    def test_asking_for_rods(self):
        for pair in itertools.combinations("abcdex", 2):
            self.assertIs(pair in WHEEL, pair in WHEEL.rods)
            self.assertIs(pair[::-1] in WHEEL, False)
        for value in WRONG:
            if value != ("a", "b"):
                self.assertIs(value in WHEEL, False)
                self.assertIs(value not in WHEEL, True)
        self.assertIs(["a", "b"] in WHEEL, False)
        self.assertIs("ab" in WHEEL, False)

    def test_equal_frames(self):
        self.assertEqual(Frame(("b", "a"), pairs("ab")), Frame(("a", "b"), pairs("ab")))
        self.assertIs(KITE == FOUR, False)
        self.assertIs(KITE != FOUR, True)
        self.assertIs(Frame(("a",)) == Frame(("b",)), False)
        self.assertIs(Frame(("a", "b")) == Frame(("a", "b", "c")), False)
        self.assertIs(KITE != Frame(KITE.pins, KITE.rods), False)
        for value in wrong_values(is_frame) + [KITE.rods, (KITE.pins, KITE.rods), [KITE]]:
            self.assertIs(KITE == value, False)
            self.assertIs(value == KITE, False)
            self.assertIs(KITE != value, True)

    def test_iteration_and_text(self):
        for frame in NAMED:
            self.assertEqual(tuple(frame), frame.rods)
            self.assertEqual(len(frame), len(frame.rods))
            self.assertEqual(frame.rods, tuple(sorted(frame.rods)))
            self.assertEqual(str(frame), f"frame of {len(frame.pins)} pins, {len(frame.rods)} rods")

    def test_frames_never_change(self):
        rods = pairs("ab bc")
        frame = Frame(("c", "b", "a"), rods)
        before = told(frame)
        frame.with_rod("a", "c")
        frame.without_rod("a", "b")
        frame.with_pin("x", "a")
        frame.coned("x")
        frame.without_pin("a")
        frame.part(("a", "b"))
        names = {"a": "x", "b": "y", "c": "z"}
        frame.renamed(names)
        self.assertEqual(names, {"a": "x", "b": "y", "c": "z"})
        other = frame | WHEEL
        self.assertEqual(told(frame), before)
        self.assertEqual(told(WHEEL), told(Frame(WHEEL.pins, WHEEL.rods)))
        self.assertEqual(other.pins, ("a", "b", "c", "d", "e"))
        for name in ("pins", "rods", "missing", "is_full"):
            with self.assertRaises(AttributeError):
                setattr(frame, name, ())
        for call in (lambda: frame.with_rod("a", "b"), lambda: frame.with_pin("x", "y"), lambda: frame | 5):
            with self.assertRaises(Exception):
                call()
        self.assertEqual(told(frame), before)

    def test_what_stands_in_the_class_itself(self):
        listed = (
            "full", "pins", "rods", "missing", "is_full", "neighbours", "with_rod", "without_rod",
            "with_pin", "coned", "without_pin", "part", "renamed", "__or__", "__contains__",
            "__len__", "__iter__", "__eq__", "__str__", "__init__",
        )
        for name in listed:
            self.assertIn(name, vars(Frame))

    def test_steps_there_and_back(self):
        rng = random.Random(21)
        for _ in range(200):
            frame = random_frame(rng)
            for one, other in frame.rods:
                self.assertEqual(frame.without_rod(other, one).with_rod(one, other), frame)
            for one, other in frame.missing:
                self.assertEqual(frame.with_rod(other, one).without_rod(one, other), frame)
            for pin in frame.pins:
                if len(frame.pins) > 1:
                    around = frame.neighbours(pin)
                    self.assertEqual(frame.without_pin(pin).with_pin(pin, *around), frame)
            self.assertEqual(frame, frame | frame.part(frame.pins[:1]))

    def test_threes_and_twin(self):
        self.assertEqual((len(THREES), len(TWIN), len(TWIN.missing)), (9, 11, 4))


if __name__ == "__main__":
    unittest.main()
