"""Placings: promises 3.1 to 3.4, and 0.9 to 0.12 as far as they concern them."""

import itertools
import random
import unittest

from lengthstell.errors import (
    InvalidFrame,
    InvalidNumber,
    InvalidOperation,
    InvalidPlacing,
    InvalidWeights,
    UnknownName,
)
from lengthstell.frame.frames import Frame
from lengthstell.place.placings import (
    are_alike,
    balances,
    is_balance,
    is_firm_at,
    is_motion,
    is_placing,
    mirrored,
    motions,
    rank_at,
    rod_rows,
    shaken,
    space_of,
    square_between,
    squares,
    weight_table,
)
from tests import oracles
from tests.examples import (
    EIGHT,
    FOUR,
    JOINED,
    KITE,
    LONG,
    LONGEST,
    LOOSE_EIGHT,
    NAMED,
    RING,
    SINGLE,
    SQUARE,
    THREES,
    TOO_LONG,
    WHEEL,
    pairs,
    random_frame,
    random_placing,
)
from tests.refusals import WRONG, Refusals, is_frame, is_space_number, never, told, wrong_values

AB = ("a", "b")
LINE = {"a": (0,), "b": (3,), "c": (1,), "d": (7,)}
EVEN = {("a", "b"): 1, ("a", "c"): -1, ("a", "d"): 1, ("b", "c"): 1, ("b", "d"): -1, ("c", "d"): 1}


def is_integer(value):
    return isinstance(value, int) and not isinstance(value, bool) and abs(value) < TOO_LONG


def is_spot(value):
    return isinstance(value, tuple) and len(value) in (1, 2) and all(is_integer(x) for x in value)


def is_any_placing(value):
    return (
        isinstance(value, dict) and 1 <= len(value) <= 8
        and all(isinstance(pin, str) and 1 <= len(pin) <= 4 for pin in value)
        and all(is_spot(spot) for spot in value.values())
        and len({len(spot) for spot in value.values()}) == 1
    )


def is_square_placing(value):
    return is_any_placing(value) and sorted(value) == ["a", "b", "c", "d"]


def turned_about(values):
    """The same dict with its keys in the other order."""
    return {key: values[key] for key in reversed(list(values))}


class PlacingsTest(Refusals):

    def test_examples(self):
        found = [
            squares(FOUR, SQUARE)[("a", "c")], rank_at(FOUR, SQUARE), is_firm_at(KITE, SQUARE),
            is_firm_at(RING, SQUARE), len(motions(RING, SQUARE)),
        ]
        self.assertEqual(found, [8, 5, True, False, 4])
        self.assertEqual(balances(FOUR, SQUARE), (EVEN,))
        self.assertEqual(
            weight_table(FOUR, balances(FOUR, SQUARE)[0]),
            ((1, -1, 1, -1), (-1, 1, -1, 1), (1, -1, 1, -1), (-1, 1, -1, 1)),
        )
        found = motions(Frame(("a", "b"), pairs("ab")), {"a": (0,), "b": (3,)})
        self.assertEqual(found, ({"a": (1,), "b": (1,)},))

    def test_examples_of_two_placings(self):
        first, second = mirrored(SQUARE, "a", "c", ("d",))
        less = KITE.without_rod("b", "d")
        found = [
            first["d"], second["d"], squares(less, first) == squares(less, second),
            are_alike(first, second),
        ]
        self.assertEqual(found, [(0, 16), (16, 0), True, False])
        shear = {"a": (0, 0), "b": (0, 0), "c": (1, 0), "d": (1, 0)}
        one, other = shaken(SQUARE, shear)
        found = [
            is_motion(RING, SQUARE, shear), is_motion(KITE, SQUARE, shear), one["c"], other["d"],
            squares(RING, one) == squares(RING, other), are_alike(one, other),
        ]
        self.assertEqual(found, [True, False, (3, 2), (-1, 2), True, False])

    def test_is_placing(self):
        self.assertIs(is_placing(FOUR, SQUARE), True)
        self.assertIs(is_placing(FOUR, SQUARE, space=2), True)
        self.assertIs(is_placing(FOUR, SQUARE, space=1), False)
        self.assertIs(is_placing(FOUR, LINE), False)
        self.assertIs(is_placing(frame=FOUR, value=LINE, space=1), True)
        self.assertIs(is_placing(FOUR, turned_about(SQUARE)), True)
        self.assertIs(is_placing(SINGLE, {"a": (LONGEST, -LONGEST)}), True)
        self.assertIs(is_placing(FOUR, {pin: (5, 5) for pin in "abcd"}), True)

    def test_values_that_are_no_placings(self):
        for value in wrong_values(is_square_placing):
            self.assertIs(is_placing(FOUR, value), False)
            self.assertIs(is_placing(FOUR, {**SQUARE, "d": value}), value == (1, 2))
        for wrong in (TOO_LONG, -TOO_LONG, True, None, "1", (1,), [1]):
            self.assertIs(is_placing(FOUR, {**SQUARE, "b": (wrong, 0)}), False)
            self.assertIs(is_placing(FOUR, {**LINE, "b": (wrong,)}, space=1), False)
        for wrong in ([0, 0], (0,), (0, 0, 0), {0: 0, 1: 0}, ()):
            self.assertIs(is_placing(FOUR, {**SQUARE, "b": wrong}), False)
        self.assertIs(is_placing(FOUR, {**SQUARE, "e": (0, 0)}), False)
        self.assertIs(is_placing(FOUR, {pin: SQUARE[pin] for pin in "abc"}), False)
        self.assertIs(is_placing(FOUR, {"a": (0, 0), "b": (0, 0), "c": (0, 0), "x": (0, 0)}), False)
        self.assertIs(is_placing(FOUR, {"a": (0, 0), "b": (0, 0), "c": (0, 0), None: (0, 0)}), False)
        self.check_arguments(
            is_placing, [(FOUR, InvalidFrame, is_frame), (SQUARE, None, never)],
            {"space": (2, InvalidNumber, is_space_number)},
        )
        self.refused(InvalidNumber, is_placing, FOUR, None, space=3, kept=3)

    def test_space_of(self):
        self.assertEqual((space_of(SQUARE), space_of(LINE), space_of({"zzzz": (0,)})), (2, 1, 1))
        self.assertEqual(space_of(placing={pin: (0, 0) for pin in "abcdefgh"}), 2)
        self.check_arguments(space_of, [(SQUARE, InvalidPlacing, is_any_placing)])
        wrong = (
            {}, {pin: (0, 0) for pin in "abcdefghi"}, {"a": (0,), "b": (0, 0)}, {"abcde": (0, 0)},
            {"a": ()}, {"a": (0, 0, 0)}, {"a": [0, 0]}, {"a": (True, 0)}, {"a": (TOO_LONG, 0)},
            {1: (0, 0)}, {("a",): (0, 0)}, {"": (0,)}, {"A": (0,)}, {"a": (0,), "abcde": (0,)},
        )
        for value in wrong:
            self.refused(InvalidPlacing, space_of, value)

    def test_squares(self):
        self.assertEqual(
            squares(KITE, SQUARE),
            {("a", "b"): 4, ("a", "c"): 8, ("a", "d"): 4, ("b", "c"): 4, ("b", "d"): 8},
        )
        self.assertEqual(squares(RING, LINE), {("a", "b"): 9, ("a", "d"): 49, ("b", "c"): 4, ("c", "d"): 36})
        self.assertEqual(squares(SINGLE, {"a": (1, 2)}), {})
        self.assertEqual(list(squares(FOUR, turned_about(SQUARE))), list(FOUR.rods))
        self.assertEqual(
            squares(Frame(("a", "b"), pairs("ab")), {"a": (LONGEST, 0), "b": (-LONGEST, LONG)}),
            {("a", "b"): 4 * LONGEST ** 2 + LONG ** 2},
        )

    def test_square_between(self):
        self.assertEqual(square_between(SQUARE, "a", "c"), 8)
        self.assertEqual(square_between(SQUARE, "c", "a"), 8)
        self.assertEqual(square_between(placing=LINE, one="d", other="a"), 49)
        self.assertEqual(square_between(SQUARE, "b", "b"), 0)
        self.assertEqual(square_between({"a": (LONG,), "b": (-LONGEST,)}, "a", "b"), (LONG + LONGEST) ** 2)

        def is_pin(value):
            return isinstance(value, str) and value in ("a", "b", "c", "d")
        self.check_arguments(square_between, [
            (SQUARE, InvalidPlacing, is_any_placing), ("a", UnknownName, is_pin), ("b", UnknownName, is_pin),
        ])

    def test_alike(self):
        moved = {"a": (5, 5), "b": (5, 7), "c": (3, 7), "d": (3, 5)}
        self.assertIs(are_alike(SQUARE, moved), True)
        self.assertIs(are_alike(moved, turned_about(SQUARE)), True)
        self.assertIs(are_alike(turned_about(SQUARE), moved), True)
        self.assertIs(are_alike(SQUARE, {**SQUARE, "d": (2, 0)}), False)
        flat = {pin: (LINE[pin][0] * 3, LINE[pin][0] * 4) for pin in LINE}
        self.assertIs(are_alike(flat, {pin: (LINE[pin][0] * -5,) for pin in LINE}), True)
        self.assertIs(are_alike(flat, LINE), False)
        self.assertIs(are_alike({"a": (1, 2)}, {"a": (7,)}), True)
        self.assertIs(are_alike(placing=SQUARE, other_placing=SQUARE), True)
        spot = {pin: (LONGEST,) for pin in "abcd"}
        self.assertIs(are_alike(spot, {pin: (0, -LONG) for pin in "abcd"}), True)
        self.assertIs(are_alike(spot, {**spot, "d": (LONGEST - 1,)}), False)

    def test_wrong_pairs_of_placings(self):
        self.check_arguments(are_alike, [
            (SQUARE, InvalidPlacing, is_any_placing), (LINE, InvalidPlacing, is_square_placing),
        ])
        self.refused(InvalidPlacing, are_alike, SQUARE, {"a": (0, 0)})
        self.refused(InvalidPlacing, are_alike, {"a": (0, 0)}, SQUARE)
        self.refused(InvalidPlacing, are_alike, {"a": (0, 0)}, {"b": (0, 0)})

    def test_rows_of_rods(self):
        self.assertEqual(rod_rows(RING, SQUARE), (
            (-2, 0, 2, 0, 0, 0, 0, 0), (0, -2, 0, 0, 0, 0, 0, 2),
            (0, 0, 0, -2, 0, 2, 0, 0), (0, 0, 0, 0, 2, 0, -2, 0),
        ))
        self.assertEqual(rod_rows(RING, LINE), ((-3, 3, 0, 0), (-7, 0, 0, 7), (0, 2, -2, 0), (0, 0, -6, 6)))
        self.assertEqual(rod_rows(SINGLE, {"a": (3, 4)}), ())
        two = Frame(("a", "b"), pairs("ab"))
        self.assertEqual(rod_rows(two, {"b": (-LONGEST,), "a": (LONGEST,)}), ((2 * LONGEST, -2 * LONGEST),))

    def test_ranks(self):
        rng = random.Random(31)
        for _ in range(120):
            frame = random_frame(rng, rng.randrange(1, 7))
            space = rng.choice((1, 2))
            placing = random_placing(rng, frame, space, rng.choice((0, 1, 2, 50)))
            self.check_placing(frame, placing, space)
        for frame in NAMED:
            for space in (1, 2):
                self.check_placing(frame, random_placing(rng, frame, space, 3), space)

    def check_placing(self, frame, placing, space):
        rows = rod_rows(frame, placing)
        wanted = oracles.rank(rows)
        self.assertEqual(rank_at(frame, placing), wanted)
        self.assertIs(is_firm_at(frame, placing), wanted == oracles.full_count(len(frame.pins), space))
        self.check_motions(frame, placing, space, wanted)
        self.check_balances(frame, placing, wanted)

    def check_motions(self, frame, placing, space, wanted):
        found = motions(frame, placing)
        self.assertIsInstance(found, tuple)
        self.assertEqual(len(found), len(frame.pins) * space - wanted)
        for motion in found:
            self.assertEqual(list(motion), list(frame.pins))
            self.assertIs(is_motion(frame, placing, motion), True)
            self.check_pace(frame, placing, motion)
        flat = tuple(tuple(x for pin in frame.pins for x in motion[pin]) for motion in found)
        self.assertEqual(oracles.rank(flat), len(found))

    def check_pace(self, frame, placing, motion):
        flat = [x for pin in frame.pins for x in motion[pin]]
        for row in rod_rows(frame, placing):
            self.assertEqual(sum(x * y for x, y in zip(row, flat)), 0)

    def check_balances(self, frame, placing, wanted):
        found = balances(frame, placing)
        self.assertIsInstance(found, tuple)
        self.assertEqual(len(found), len(frame.rods) - wanted)
        for weights in found:
            self.assertEqual(list(weights), list(frame.rods))
            self.assertIs(is_balance(frame, placing, weights), True)
            self.check_balance(frame, placing, weights)
        flat = tuple(tuple(weights.values()) for weights in found)
        self.assertEqual(oracles.rank(flat), len(found))

    def check_balance(self, frame, placing, weights):
        """Promise 0.11, and what 3.3 says of weights in balance."""
        for pin in frame.pins:
            for place in range(len(placing[pin])):
                total = 0
                for rod in frame.rods:
                    if pin in rod:
                        other = rod[0] if rod[1] == pin else rod[1]
                        total += weights[rod] * (placing[other][place] - placing[pin][place])
                self.assertEqual(total, 0)
        square = squares(frame, placing)
        self.assertEqual(sum(weights[rod] * square[rod] for rod in frame.rods), 0)
        if max([abs(weight) for weight in weights.values()], default=0) >= TOO_LONG:
            self.refused(InvalidWeights, weight_table, frame, weights)
            self.assertIs(is_balance(frame, placing, weights), False)
            return
        table = weight_table(frame, weights)
        for place in range(space_of(placing)):
            for row in table:
                self.assertEqual(sum(x * placing[pin][place] for x, pin in zip(row, frame.pins)), 0)

    def test_motions_and_balances_are_those_of_the_kernel(self):
        placing = {"a": (0, 0), "b": (1, 0), "c": (3, 1), "d": (-1, 2)}
        rows = rod_rows(RING, placing)
        leads = oracles.led_columns(rows, 8)
        opened = [at for at in range(8) if at not in leads]
        for at, motion in zip(opened, motions(RING, placing)):
            flat = [x for pin in RING.pins for x in motion[pin]]
            self.assertGreater(flat[at], 0)
            self.assertEqual([flat[other] for other in opened if other != at], [0] * (len(opened) - 1))
        columns = list(zip(*rod_rows(EIGHT, random_placing(random.Random(5), EIGHT, 2, 9))))
        leads = oracles.led_columns(columns, 28)
        self.assertEqual(leads, list(range(28))[:7] + [7, 8, 9, 10, 11, 12])
        found = balances(EIGHT, random_placing(random.Random(5), EIGHT, 2, 9))
        for at, weights in zip(range(13, 28), found):
            row = list(weights.values())
            self.assertEqual([x > 0 for x in row[13:]], [other == at for other in range(13, 28)])

    def test_motions_of_the_whole(self):
        for frame in (FOUR, KITE, RING):
            for placing in (SQUARE, {pin: (1, 1) for pin in "abcd"}):
                self.assertIs(is_motion(frame, placing, {pin: (3, -4) for pin in "abcd"}), True)
                turn = {pin: (-placing[pin][1], placing[pin][0]) for pin in "abcd"}
                self.assertIs(is_motion(frame, placing, turn), True)
        self.assertIs(is_motion(KITE, LINE, {pin: (-9,) for pin in "dcba"}), True)

    def test_wrong_motions(self):
        still = {pin: (0, 0) for pin in "abcd"}
        self.assertIs(is_motion(FOUR, SQUARE, still), True)
        self.assertIs(is_motion(FOUR, SQUARE, {**still, "a": (0, 1)}), False)
        for value in WRONG:
            self.assertIs(is_motion(FOUR, SQUARE, value), False)
        for wrong in ((False, 0), (0, False), [0, 0], (0,), (0, 0, 0), None, "00", {0: 0}, ()):
            self.assertIs(is_motion(FOUR, SQUARE, {**still, "a": wrong}), False)
        self.assertIs(is_motion(FOUR, SQUARE, {pin: (LONGEST, -LONG) for pin in "abcd"}), True)
        self.assertIs(is_motion(FOUR, SQUARE, {pin: (TOO_LONG, 0) for pin in "abcd"}), False)
        self.assertIs(is_motion(FOUR, SQUARE, {**still, "e": (0, 0)}), False)
        self.assertIs(is_motion(FOUR, SQUARE, {pin: (0, 0) for pin in "abc"}), False)
        self.assertIs(is_motion(FOUR, LINE, still), False)
        self.assertIs(is_motion(SINGLE, {"a": (0, 0)}, {"a": (LONG, 7)}), True)

    def test_wrong_balances(self):
        nought = {rod: 0 for rod in FOUR.rods}
        self.assertIs(is_balance(FOUR, SQUARE, nought), True)
        self.assertIs(is_balance(FOUR, SQUARE, {rod: -7 * EVEN[rod] for rod in reversed(FOUR.rods)}), True)
        self.assertIs(is_balance(FOUR, SQUARE, {rod: LONGEST * EVEN[rod] for rod in EVEN}), True)
        self.assertIs(is_balance(FOUR, SQUARE, {rod: TOO_LONG * EVEN[rod] for rod in EVEN}), False)
        self.assertIs(is_balance(FOUR, SQUARE, {**EVEN, ("a", "b"): 2}), False)
        self.assertIs(is_balance(FOUR, SQUARE, {**EVEN, ("a", "b"): True}), False)
        self.assertIs(is_balance(FOUR, SQUARE, {**nought, ("a", "b"): False}), False)
        self.assertIs(is_balance(FOUR, SQUARE, {**nought, ("b", "a"): 0}), False)
        self.assertIs(is_balance(KITE, SQUARE, nought), False)
        others = [rod for rod in FOUR.rods if rod != AB]
        for other in (("b", "a"), "ab", None, 1, ("a", "x")):
            self.assertIs(is_balance(FOUR, SQUARE, {other: 0, **{rod: 0 for rod in others}}), False)
            self.refused(InvalidWeights, weight_table, FOUR, {other: 0, **{rod: 0 for rod in others}})
        self.assertIs(is_balance(FOUR, SQUARE, {rod: 0 for rod in KITE.rods}), False)
        for value in WRONG:
            self.assertIs(is_balance(FOUR, SQUARE, value), False)
            self.assertIs(is_balance(FOUR, SQUARE, {**nought, ("a", "c"): value}), is_integer(value) and value == 0)
        self.assertIs(is_balance(SINGLE, {"a": (0, 0)}, {}), True)
        self.assertIs(is_balance(SINGLE, {"a": (0, 0)}, ()), False)
        spot = {pin: (4, 4) for pin in "abcd"}
        self.assertIs(is_balance(FOUR, spot, {rod: at for at, rod in enumerate(FOUR.rods)}), True)

    def test_pins_at_one_spot_and_on_one_line(self):
        spot = {pin: (LONGEST, -LONGEST) for pin in EIGHT.pins}
        self.assertEqual((rank_at(EIGHT, spot), len(motions(EIGHT, spot)), len(balances(EIGHT, spot))), (0, 16, 28))
        self.assertIs(is_firm_at(EIGHT, spot), False)
        self.assertIs(is_firm_at(SINGLE, {"a": (5, 5)}), True)
        self.assertIs(is_firm_at(SINGLE, {"a": (5,)}), True)
        flat = {pin: (at, 3 * at) for at, pin in enumerate(EIGHT.pins)}
        self.assertEqual((rank_at(EIGHT, flat), is_firm_at(EIGHT, flat)), (7, False))
        self.assertEqual((len(motions(EIGHT, flat)), len(balances(EIGHT, flat))), (9, 21))
        line = {pin: (at,) for at, pin in enumerate(EIGHT.pins)}
        self.assertEqual((rank_at(EIGHT, line), is_firm_at(EIGHT, line)), (7, True))
        self.assertEqual(motions(EIGHT, line), ({pin: (1,) for pin in EIGHT.pins},))

    def test_frames_without_rods(self):
        placing = {pin: (at, at * at) for at, pin in enumerate(LOOSE_EIGHT.pins)}
        self.assertEqual((rank_at(LOOSE_EIGHT, placing), balances(LOOSE_EIGHT, placing)), (0, ()))
        self.assertEqual(len(motions(LOOSE_EIGHT, placing)), 16)
        self.assertIs(is_balance(LOOSE_EIGHT, placing, {}), True)
        self.assertEqual(motions(SINGLE, {"a": (7, 7)}), ({"a": (1, 0)}, {"a": (0, 1)}))
        self.assertEqual(weight_table(SINGLE, {}), ((0,),))

    def test_placings_of_long_integers(self):
        placing = {
            "a": (LONGEST, LONG), "b": (-LONGEST, LONG + 1), "c": (LONG - 7, -LONGEST), "d": (3, LONGEST),
        }
        self.assertEqual((rank_at(FOUR, placing), is_firm_at(KITE, placing)), (5, True))
        (weights,) = balances(FOUR, placing)
        self.check_balance(FOUR, placing, weights)
        for motion in motions(RING, placing):
            self.check_pace(RING, placing, motion)
        long_ones = [motion for motion in motions(RING, placing) if max(
            abs(x) for spot in motion.values() for x in spot) >= TOO_LONG]
        self.assertGreater(len(long_ones), 0)
        for motion in long_ones:
            self.assertIs(is_motion(RING, placing, motion), False)

    def test_eight_pins_at_long_spots(self):
        rng = random.Random(33)
        placing = {pin: (rng.randrange(LONG, TOO_LONG), -rng.randrange(LONG, TOO_LONG)) for pin in EIGHT.pins}
        self.assertEqual((rank_at(EIGHT, placing), is_firm_at(EIGHT, placing)), (13, True))
        self.assertIs(is_motion(EIGHT, placing, {pin: (LONGEST, LONG) for pin in EIGHT.pins}), True)
        self.assertIs(is_balance(EIGHT, placing, {rod: 0 for rod in EIGHT.rods}), True)
        self.assertIs(is_balance(EIGHT, placing, {rod: LONG for rod in EIGHT.rods}), False)
        moved = {pin: (placing[pin][0] - 1, placing[pin][1] + 1) for pin in placing}
        self.assertIs(are_alike(placing, moved), True)

    def test_weight_tables(self):
        weights = {rod: at * 10 + 1 for at, rod in enumerate(KITE.rods)}
        self.assertEqual(weight_table(frame=KITE, weights=turned_about(weights)), (
            (33, -1, -11, -21), (-1, 73, -31, -41), (-11, -31, 42, 0), (-21, -41, 0, 62),
        ))
        many = {rod: LONGEST for rod in EIGHT.rods}
        table = weight_table(EIGHT, many)
        self.assertEqual((table[0][0], table[3][4]), (7 * LONGEST, -LONGEST))
        self.check_arguments(weight_table, [(KITE, InvalidFrame, is_frame), (weights, InvalidWeights, never)])
        for wrong in (True, None, TOO_LONG, -TOO_LONG, "1", (1,), [1]):
            self.refused(InvalidWeights, weight_table, KITE, {**weights, ("a", "b"): wrong})
        self.refused(InvalidWeights, weight_table, KITE, {**weights, ("c", "d"): 0})
        self.refused(InvalidWeights, weight_table, KITE, {rod: 0 for rod in RING.rods})
        self.refused(InvalidWeights, weight_table, KITE, list(weights))

    def test_wrong_frames_and_placings(self):
        places = [(FOUR, InvalidFrame, is_frame), (SQUARE, InvalidPlacing, is_square_placing)]
        for call in (squares, rod_rows, rank_at, is_firm_at, motions, balances):
            self.check_arguments(call, places)
        for call in (is_motion, is_balance):
            self.check_arguments(call, places + [(None, None, never)])
        for call in (squares, rod_rows, rank_at, is_firm_at, motions, balances):
            for wrong in ({**SQUARE, "e": (0, 0)}, {**SQUARE, "a": (0,)}, {**SQUARE, "a": (0, False)},
                          {**SQUARE, "a": [0, 0]}, {**SQUARE, "a": (0, -TOO_LONG)}, {"a": (0, 0)}, {}):
                self.refused(InvalidPlacing, call, FOUR, wrong)

    def test_mirrored(self):
        rng = random.Random(34)
        for _ in range(60):
            placing = random_placing(rng, EIGHT, 2, 4)
            one, other = rng.sample(EIGHT.pins, 2)
            rest = [pin for pin in EIGHT.pins if pin not in (one, other)]
            side = tuple(pin for pin in rest if rng.random() < 0.5)
            scale = square_between(placing, one, other)
            if scale == 0:
                self.refused(InvalidOperation, mirrored, placing, one, other, side)
            else:
                self.check_mirrored(placing, one, other, side, scale)

    def check_mirrored(self, placing, one, other, side, scale):
        both = mirrored(placing, one, other, side)
        self.assertIsInstance(both, tuple)
        first, second = both
        self.assertEqual(first, {pin: (x * scale, y * scale) for pin, (x, y) in placing.items()})
        for changed in both:
            self.assertEqual(list(changed), sorted(placing))
        for pin, against in itertools.combinations(sorted(placing), 2):
            ends = (one, other)
            if (pin in side) == (against in side) or pin in ends or against in ends:
                self.assertEqual(square_between(first, pin, against), square_between(second, pin, against))
        on_line = [pin for pin in placing if self.is_on_line(placing, one, other, pin)]
        for pin in placing:
            self.assertIs(first[pin] == second[pin], pin not in side or pin in on_line)
        rest = [pin for pin in placing if pin not in side]
        alike = all(pin in on_line for pin in side) or all(pin in on_line for pin in rest)
        self.assertIs(are_alike(first, second), alike)

    def is_on_line(self, placing, one, other, pin):
        (x, y), (z, w), (u, v) = placing[one], placing[other], placing[pin]
        return (z - x) * (v - y) == (w - y) * (u - x)

    def test_wrong_mirrors(self):
        self.assertEqual(mirrored(SQUARE, "a", "c", ())[0], mirrored(SQUARE, "a", "c", ())[1])
        self.assertEqual(mirrored(placing=SQUARE, one="a", other="c", side=("b",))[1]["b"], (0, 16))

        def is_pin(value):
            return isinstance(value, str) and value in ("a", "b", "c", "d")
        self.check_arguments(mirrored, [
            (SQUARE, InvalidPlacing, is_any_placing), ("b", UnknownName, is_pin),
            ("c", UnknownName, is_pin), (("a",), InvalidOperation, lambda value: value in ((), ("a",))),
        ])
        self.refused(InvalidPlacing, mirrored, LINE, "a", "b", ())
        self.refused(InvalidPlacing, mirrored, LINE, "x", "x", None)
        self.refused(UnknownName, mirrored, SQUARE, "a", "a", (), kept="a")
        self.refused(UnknownName, mirrored, SQUARE, "x", "x", (), kept="x")
        for side in (("a",), ("b",), ("a", "d"), ("d", "c"), ("c", "c"), ("x",), ["c"], "c", None, ("c", 1)):
            self.refused(InvalidOperation, mirrored, SQUARE, "a", "b", side)
        spot = {"a": (1, 1), "b": (1, 1), "c": (0, 0)}
        self.refused(InvalidOperation, mirrored, spot, "a", "b", ("c",))
        self.refused(UnknownName, mirrored, spot, "a", "x", ("c",), kept="x")

    def test_shaken(self):
        rng = random.Random(35)
        for _ in range(60):
            frame = rng.choice((FOUR, KITE, WHEEL, THREES, JOINED))
            space = rng.choice((1, 2))
            placing = random_placing(rng, frame, space, 5)
            motion = random_placing(rng, frame, space, 1)
            both = shaken(placing, turned_about(motion))
            self.assertIsInstance(both, tuple)
            for pin in frame.pins:
                self.assertEqual(both[0][pin], tuple(x + y for x, y in zip(placing[pin], motion[pin])))
                self.assertEqual(both[1][pin], tuple(x - y for x, y in zip(placing[pin], motion[pin])))
            self.assertEqual([list(changed) for changed in both], [list(frame.pins)] * 2)
            same = squares(frame, both[0]) == squares(frame, both[1])
            self.assertIs(same, is_motion(frame, placing, motion))
        longest = {"a": (LONGEST,), "b": (-LONGEST,)}
        self.assertEqual(shaken(placing=longest, motion=longest)[0], {"a": (2 * LONGEST,), "b": (-2 * LONGEST,)})

    def test_wrong_shakes(self):
        self.check_arguments(shaken, [
            (SQUARE, InvalidPlacing, is_any_placing),
            (SQUARE, InvalidOperation, is_square_placing),
        ])
        for wrong in (LINE, {"a": (0, 0)}, {**SQUARE, "e": (0, 0)}, {**SQUARE, "a": (0, True)},
                      {**SQUARE, "a": [0, 0]}, {**SQUARE, "a": (TOO_LONG, 0)}, {**SQUARE, "a": (0, 0, 0)}):
            self.refused(InvalidOperation, shaken, SQUARE, wrong)

    def test_arguments_stay_and_answers_are_not_shared(self):
        placing, weights, side = turned_about(SQUARE), turned_about(EVEN), ("d",)
        before = told((FOUR, placing, weights, side))
        calls = (
            lambda: squares(FOUR, placing), lambda: motions(FOUR, placing)[0],
            lambda: balances(FOUR, placing)[0], lambda: mirrored(placing, "a", "b", side)[0],
            lambda: mirrored(placing, "a", "b", side)[1], lambda: shaken(placing, placing)[0],
            lambda: shaken(placing, placing)[1],
        )
        for call in calls:
            first = call()
            shown = told(first)
            self.assertEqual(list(first), sorted(first))
            first.clear()
            self.assertEqual(told(call()), shown)
        first, second = mirrored(placing, "a", "b", ())
        self.assertIsNot(first, second)
        weight_table(FOUR, weights)
        rod_rows(frame=FOUR, placing=placing)
        is_motion(frame=FOUR, placing=placing, value=placing)
        is_balance(frame=FOUR, placing=placing, value=weights)
        self.assertEqual(told((FOUR, placing, weights, side)), before)


if __name__ == "__main__":
    unittest.main()
