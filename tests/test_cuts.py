"""Pieces and cuts: promise 2.2."""

import itertools
import random
import unittest

from lengthstell.errors import InvalidFrame, InvalidNumber, InvalidOperation
from lengthstell.frame.cuts import cuts, is_cut_by, pieces, sides
from lengthstell.frame.frames import Frame
from tests import oracles
from tests.examples import (
    EIGHT,
    FOUR,
    KITE,
    LOOSE_EIGHT,
    SINGLE,
    THREES,
    TOO_LONG,
    TWIN,
    WHEEL,
    all_frames,
    pairs,
    random_frame,
    subsets,
)
from tests.refusals import Refusals, is_frame, told


def is_lot_of_four(value):
    return isinstance(value, tuple) and value in tuple(subsets("abcd"))


class CutsTest(Refusals):

    def test_examples(self):
        found = [
            pieces(Frame(("a", "b", "c", "d"), pairs("ad bc"))), sides(TWIN, ("a", "b")),
            sides(KITE, ()), sides(KITE, KITE.pins),
        ]
        self.assertEqual(found, [
            (("a", "d"), ("b", "c")), (("c", "d"), ("e", "f")), (("a", "b", "c", "d"),), (),
        ])
        found = [
            cuts(KITE, 2), cuts(TWIN, 2), cuts(THREES, 2), cuts(WHEEL, 3),
            is_cut_by(KITE, ("a", "c")), cuts(Frame(("a", "b", "c"), pairs("ab bc")), 1),
        ]
        self.assertEqual(found, [
            (("a", "b"),), (("a", "b"),), (), (("a", "b", "d"), ("a", "c", "e")), False, (("b",),),
        ])

    def test_one_pin_and_eight_pins(self):
        self.assertEqual((pieces(SINGLE), sides(SINGLE, ("a",)), sides(SINGLE, ())), ((("a",),), (), (("a",),)))
        self.assertEqual([cuts(SINGLE, size) for size in range(7)], [()] * 7)
        self.assertEqual(pieces(LOOSE_EIGHT), tuple((pin,) for pin in "abcdefgh"))
        self.assertEqual([cuts(EIGHT, size) for size in range(7)], [()] * 7)
        self.assertEqual([len(cuts(LOOSE_EIGHT, size)) for size in range(7)], [1, 8, 28, 56, 70, 56, 28])
        self.assertEqual(cuts(LOOSE_EIGHT, 0), ((),))
        self.assertEqual(cuts(LOOSE_EIGHT, 6), tuple(itertools.combinations("abcdefgh", 6)))

    def test_lots_of_all_pins_and_of_none(self):
        self.assertIs(is_cut_by(LOOSE_EIGHT, LOOSE_EIGHT.pins), False)
        self.assertIs(is_cut_by(LOOSE_EIGHT, LOOSE_EIGHT.pins[1:]), False)
        self.assertIs(is_cut_by(LOOSE_EIGHT, ()), True)
        self.assertIs(is_cut_by(KITE, ()), False)

    def test_all_frames_of_four_pins(self):
        for frame in all_frames("abcd"):
            self.check_frame(frame)

    def test_random_frames(self):
        rng = random.Random(22)
        for _ in range(60):
            self.check_frame(random_frame(rng))

    def check_frame(self, frame):
        self.assertEqual(pieces(frame), oracles.pieces(frame, ()))
        found = {size: [] for size in range(9)}
        for lot in subsets(frame.pins):
            wanted = oracles.pieces(frame, lot)
            self.assertEqual(sides(frame, lot), wanted)
            self.assertIs(is_cut_by(frame, lot), len(wanted) >= 2)
            if len(wanted) >= 2:
                found[len(lot)].append(lot)
        for size in range(7):
            self.assertEqual(cuts(frame, size), tuple(found[size]))

    def test_wrong_arguments(self):
        self.check_arguments(pieces, [(FOUR, InvalidFrame, is_frame)])
        places = [(FOUR, InvalidFrame, is_frame), (("a",), InvalidOperation, is_lot_of_four)]
        self.check_arguments(sides, places)
        self.check_arguments(is_cut_by, places)
        self.check_arguments(cuts, [
            (FOUR, InvalidFrame, is_frame),
            (2, InvalidNumber, lambda value: isinstance(value, int) and not isinstance(value, bool)
             and 0 <= value <= 6),
        ])
        for size in (-1, 7, True, False, TOO_LONG, "2", None, (2,)):
            self.refused(InvalidNumber, cuts, FOUR, size, kept=size)
        for lot in (("b", "a"), ("a", "a"), ("x",), ["a"], "a", None):
            self.refused(InvalidOperation, sides, FOUR, lot)
            self.refused(InvalidOperation, is_cut_by, FOUR, lot)

    def test_keywords_and_arguments_stay(self):
        before = told(TWIN)
        for _ in range(2):
            self.assertEqual(len(pieces(frame=TWIN)), 1)
            self.assertEqual(len(sides(frame=TWIN, lot=("a", "b"))), 2)
            self.assertIs(is_cut_by(frame=TWIN, lot=("a", "b")), True)
            self.assertEqual(cuts(frame=TWIN, size=2), (("a", "b"),))
        self.assertEqual(told(TWIN), before)


if __name__ == "__main__":
    unittest.main()
