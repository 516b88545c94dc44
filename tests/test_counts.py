"""Counts: promises 4.1 to 4.3, and 0.12 to 0.14."""

import random
import unittest

from lengthstell.count.counts import (
    count_rank,
    crowd,
    is_crowd,
    is_firm,
    is_pebbles,
    is_sparse,
    pebbles,
)
from lengthstell.errors import InvalidFrame, InvalidNumber
from lengthstell.frame.frames import Frame
from lengthstell.place.placings import rank_at
from tests import oracles
from tests.examples import (
    BOW,
    EIGHT,
    FOUR,
    JOINED,
    KITE,
    LOOSE_EIGHT,
    NAMED,
    RING,
    SINGLE,
    THREES,
    TOO_LONG,
    TWIN,
    WHEEL,
    all_frames,
    pairs,
    random_frame,
    random_placing,
    subsets,
)
from tests.refusals import WRONG, Refusals, is_frame, is_space_number, never, told

THREE, AB, AC, BC = Frame.full(("a", "b", "c")), ("a", "b"), ("a", "c"), ("b", "c")
GOOD = ((AB, {}), (AC, {AB: "b"}), (BC, {AB: "a", AC: "a"}))


def are_pebbles(frame, value, space):
    """Whether a value of the right form is pebbles, by the words of 4.1."""
    if sorted(rod for rod, _ in value) != list(frame.rods):
        return False
    for at, (rod, tails) in enumerate(value):
        if set(tails) != {other for other, _ in value[:at]}:
            return False
        borne = list(tails.values())
        if any(tails[other] not in other for other in tails):
            return False
        if any(borne.count(pin) > space for pin in borne) or any(pin in borne for pin in rod):
            return False
    return True


class CountsTest(Refusals):

    def test_examples(self):
        found = [
            count_rank(FOUR), count_rank(FOUR, space=1), is_sparse(KITE), is_firm(KITE), is_firm(BOW),
            is_firm(BOW, space=1), crowd(FOUR), crowd(KITE),
        ]
        self.assertEqual(found, [5, 3, True, True, False, True, ("a", "b", "c", "d"), None])
        bad = ((AB, {}), (AC, {AB: "a"}), (BC, {AB: "a", AC: "a"}))
        found = [is_pebbles(THREE, GOOD), is_pebbles(THREE, bad), pebbles(FOUR), is_crowd(FOUR, ("a", "b", "c"))]
        self.assertEqual(found, [True, False, None, False])

    def test_one_pin_and_eight_pins(self):
        for space in (1, 2):
            self.assertEqual(count_rank(SINGLE, space=space), 0)
            self.assertEqual(count_rank(LOOSE_EIGHT, space=space), 0)
            self.assertEqual(
                [is_sparse(SINGLE, space=space), is_firm(SINGLE, space=space), is_firm(LOOSE_EIGHT, space=space)],
                [True, True, False],
            )
            self.assertEqual((pebbles(SINGLE, space=space), pebbles(LOOSE_EIGHT, space=space)), ((), ()))
            self.assertEqual((crowd(SINGLE, space=space), crowd(LOOSE_EIGHT, space=space)), (None, None))
        self.assertEqual((count_rank(EIGHT), count_rank(EIGHT, space=1)), (13, 7))
        self.assertEqual((is_firm(EIGHT), is_firm(EIGHT, space=1)), (True, True))
        two = Frame(("a", "b"))
        self.assertEqual((is_firm(two), is_firm(two, space=1), is_firm(two.with_rod("a", "b"))), (False, False, True))

    def test_all_frames_of_four_pins(self):
        for frame in all_frames("abcd"):
            for space in (1, 2):
                self.assertEqual(count_rank(frame, space=space), oracles.count_rank_by_lots(frame, space))
                self.assertEqual(count_rank(frame, space=space), min(
                    oracles.parting_sum(lots, space) for lots in oracles.partings(frame.rods)))
                self.assertIs(is_sparse(frame, space=space), oracles.is_sparse_by_lots(frame.rods, space))
                self.check_frame(frame, space)

    def test_all_frames_of_five_pins(self):
        for frame in all_frames("abcde"):
            for space in (1, 2):
                self.check_frame(frame, space)

    def test_random_frames(self):
        rng = random.Random(41)
        frames = [random_frame(rng, rng.randrange(6, 9)) for _ in range(60)]
        for frame in frames + list(NAMED):
            for space in (1, 2):
                self.check_frame(frame, space)
                placing = random_placing(rng, frame, space, 10 ** 9)
                self.assertEqual(rank_at(frame, placing), count_rank(frame, space=space))

    def check_frame(self, frame, space):
        wanted = oracles.count_rank(frame, space)
        sparse = wanted == len(frame.rods)
        self.assertEqual(count_rank(frame, space=space), wanted)
        self.assertIs(is_sparse(frame, space=space), sparse)
        self.assertIs(is_firm(frame, space=space), wanted == oracles.full_count(len(frame.pins), space))
        self.check_pebbles(frame, space, sparse)
        self.check_crowd(frame, space, sparse)

    def check_pebbles(self, frame, space, sparse):
        found = pebbles(frame, space=space)
        if not sparse:
            self.assertIsNone(found)
            return
        self.assertIs(are_pebbles(frame, found, space), True)
        self.assertIs(is_pebbles(frame, found, space=space), True)
        for _, tails in found:
            self.assertEqual(list(tails), sorted(tails))

    def check_crowd(self, frame, space, sparse):
        found = crowd(frame, space=space)
        if sparse:
            self.assertIsNone(found)
        else:
            self.assertIs(is_crowd(frame, found, space=space), True)
        if len(frame.pins) > 5:
            return
        for lot in subsets(frame.pins):
            within = len(frame.part(lot)) if lot else 0
            crowded = lot != () and within > oracles.full_count(len(lot), space)
            self.assertIs(is_crowd(frame, lot, space=space), crowded)

    def test_pebbles_of_others(self):
        self.assertIs(is_pebbles(THREE, ((BC, {}), (AB, {BC: "c"}), (AC, {BC: "b", AB: "b"}))), True)
        self.assertIs(is_pebbles(THREE, ((AB, {}), (AC, {AB: "b"}), (BC, {AC: "a", AB: "a"}))), True)
        line = Frame(("a", "b", "c"), (AB, BC))
        self.assertIs(is_pebbles(line, ((BC, {}), (AB, {BC: "c"})), space=1), True)
        self.assertIs(is_pebbles(line, ((BC, {}), (AB, {BC: "b"})), space=1), False)
        self.assertIs(is_pebbles(THREE, GOOD, space=1), False)
        self.assertIs(is_pebbles(SINGLE, ()), True)
        self.assertIs(is_pebbles(FOUR, ()), False)

    def test_all_pebbles_of_a_small_frame(self):
        rng = random.Random(42)
        frame = Frame(("a", "b", "c", "d"), pairs("ab ac bc bd"))
        answers = []
        for _ in range(3000):
            rods = list(frame.rods)
            rng.shuffle(rods)
            value = tuple(
                (rod, {other: rng.choice(other) for other in rods[:at]}) for at, rod in enumerate(rods)
            )
            answers.append(is_pebbles(frame, value))
            self.assertIs(answers[-1], are_pebbles(frame, value, 2))
        self.assertGreater(answers.count(True), 20)

    def test_pebbles_that_are_wrong_in_one_place(self):
        wrong_last = (
            {AB: "a"}, {AB: "a", AC: "a", BC: "b"}, {AB: "a", AC: "c"}, {AB: "a", AC: "b"}, {AB: "a", AC: "x"},
            {AB: "a", AC: None}, {AB: "a", AC: True}, {AB: "a", AC: ["a"]}, {AB: "a", AC: ("a",)},
            {AB: "a", ("c", "a"): "a"}, [(AB, "a"), (AC, "a")], (), None, {AB: "a", "ac": "a"},
        )
        for tails in wrong_last:
            self.assertIs(is_pebbles(THREE, GOOD[:2] + ((BC, tails),)), False)
        for rod in (("c", "b"), AB, ("b", "x"), ["b", "c"], "bc", None, True, THREE):
            self.assertIs(is_pebbles(THREE, GOOD[:2] + ((rod, GOOD[2][1]),)), False)
        for pair in ([BC, GOOD[2][1]], (BC,), (BC, GOOD[2][1], 1), None, BC, {}):
            self.assertIs(is_pebbles(THREE, GOOD[:2] + (pair,)), False)
        self.assertIs(is_pebbles(THREE, list(GOOD)), False)
        self.assertIs(is_pebbles(THREE, GOOD[:2]), False)
        self.assertIs(is_pebbles(THREE, GOOD + ((BC, {}),)), False)
        self.assertIs(is_pebbles(THREE, (GOOD[0], GOOD[0], GOOD[2])), False)

    def test_no_pin_bears_too_many_tails(self):
        star = Frame(tuple("abcdef"), pairs("ab ac ad ef"))
        tails = {("a", "b"): "a", ("a", "c"): "a", ("a", "d"): "d"}
        ahead = ((("a", "b"), {}), (("a", "c"), {("a", "b"): "b"}),
                 (("a", "d"), {("a", "b"): "b", ("a", "c"): "c"}))
        self.assertIs(is_pebbles(star, ahead + ((("e", "f"), tails),)), True)
        self.assertIs(is_pebbles(star, ahead + ((("e", "f"), {**tails, ("a", "d"): "a"}),)), False)
        self.assertIs(is_pebbles(star, ahead + ((("e", "f"), tails),), space=1), False)

    def test_judges_accept_every_value(self):
        for value in WRONG:
            for space in (1, 2):
                before = told(value)
                self.assertIs(is_pebbles(WHEEL, value, space=space), False)
                self.assertIs(is_crowd(KITE, value, space=space), False)
                self.assertIs(is_pebbles(SINGLE, value, space=space), isinstance(value, tuple) and value == ())
                self.assertIs(is_crowd(SINGLE, value, space=space), False)
                self.assertEqual(told(value), before)

    def test_crowds(self):
        self.assertIs(is_crowd(FOUR, FOUR.pins), True)
        self.assertIs(is_crowd(FOUR, ("a", "b", "c"), space=1), True)
        self.assertIs(is_crowd(TWIN, ("a", "b", "e", "f")), True)
        self.assertIs(is_crowd(TWIN, TWIN.pins), True)
        self.assertIs(is_crowd(RING, RING.pins, space=1), True)
        self.assertIs(is_crowd(RING, RING.pins), False)
        for lot in ((), ("a",), ("a", "b"), ["a", "b", "c", "d"], ("d", "c", "b", "a"), ("a", "b", "c", "x"),
                    ("a", "b", "c", "d", "d"), "abcd", ("a", "b", "c", None)):
            for space in (1, 2):
                self.assertIs(is_crowd(FOUR, lot, space=space), False)

    def test_wrong_arguments(self):
        space = {"space": (2, InvalidNumber, is_space_number)}
        for call in (count_rank, is_sparse, is_firm, pebbles, crowd):
            self.check_arguments(call, [(FOUR, InvalidFrame, is_frame)], space)
        for call in (is_pebbles, is_crowd):
            self.check_arguments(call, [(FOUR, InvalidFrame, is_frame), (None, None, never)], space)
            for wrong in (0, 3, True, None, TOO_LONG, "2"):
                self.refused(InvalidNumber, call, FOUR, None, space=wrong, kept=wrong)
                self.refused(InvalidFrame, call, None, None, space=wrong)

    def test_the_space_is_told_by_keyword(self):
        for call in (count_rank, is_sparse, is_firm, pebbles, crowd):
            with self.assertRaises(TypeError):
                call(FOUR, 2)
            self.assertEqual(call(FOUR), call(frame=FOUR, space=2))

    def test_arguments_stay_and_answers_are_not_shared(self):
        frame = THREES
        before = told(frame)
        first = pebbles(frame)
        shown = told(first)
        for _, tails in first:
            tails.clear()
        self.assertEqual(told(pebbles(frame)), shown)
        value = pebbles(JOINED.part(("a", "b", "c")))
        asked = told(value)
        self.assertIs(is_pebbles(JOINED.part(("a", "b", "c")), value), True)
        self.assertEqual(told(value), asked)
        self.assertEqual(told(frame), before)


if __name__ == "__main__":
    unittest.main()
