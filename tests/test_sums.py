"""Two-sums, halves and leaves: promises 9.1 to 9.4."""

import itertools
import random
from math import gcd

from lengthstell.count.blocks import is_circuit
from lengthstell.errors import InvalidFrame, InvalidOperation, InvalidWeights, Refused, TooMany
from lengthstell.frame.cuts import cuts
from lengthstell.frame.frames import Frame
from lengthstell.join.sums import halves, leaves, summed_weights, two_sum
from lengthstell.told.told import is_told
from tests import oracles
from tests.examples import (
    EIGHT,
    FOUR,
    KITE,
    LONGEST,
    NAMED,
    SINGLE,
    TOO_LONG,
    TWIN,
    WHEEL,
    all_frames,
    pairs,
    random_frame,
    renamed_at_random,
    shapes,
)
from tests.refusals import Refusals, is_frame, never, told

SIDE = Frame.full(("a", "b", "e", "f"))
DOUBLE = two_sum(FOUR, SIDE)
LEFT = {("a", "b"): 2, ("a", "c"): 1, ("a", "d"): 1, ("b", "c"): 1, ("b", "d"): 1, ("c", "d"): 3}
RIGHT = {("a", "b"): -4, ("a", "e"): 1, ("a", "f"): 1, ("b", "e"): 1, ("b", "f"): 1, ("e", "f"): 5}


def random_circuit(rng, many):
    """A circuit of so many pins, by steps and two-sums."""
    names = rng.sample("abcdefgh", 8)
    frame = Frame.full(tuple(names[:4]))
    while len(frame.pins) < many:
        one, other = rng.choice(frame.rods)
        new = [name for name in names if name not in frame.pins]
        if len(frame.pins) <= many - 2 and rng.random() < 0.6:
            frame = two_sum(frame, Frame.full((one, other, *new[:2])))
        else:
            third = rng.choice([pin for pin in frame.pins if pin not in (one, other)])
            frame = frame.without_rod(one, other).with_pin(new[0], one, other, third)
    return frame


def own_halves(frame, lot):
    """The halves by the words of the document."""
    found = []
    for side in oracles.pieces(frame, lot):
        pins = set(side) | set(lot)
        rods = [rod for rod in frame.rods if set(rod) <= pins] + [lot]
        found.append(Frame(tuple(sorted(pins)), tuple(sorted(rods))))
    return tuple(found)


def own_leaves(rng, frame):
    """The leaves, with the frames replaced in any order and at any pins."""
    left, found = [frame], []
    while left:
        part = left.pop(rng.randrange(len(left)))
        lots = [lot for lot in itertools.combinations(part.pins, 2) if len(oracles.pieces(part, lot)) > 1]
        if lots:
            left.extend(own_halves(part, rng.choice(lots)))
        else:
            found.append(part)
    return sorted((part.pins, part.rods) for part in found)


class SumsTest(Refusals):

    def test_examples(self):
        found = [
            str(DOUBLE), ("a", "b") in DOUBLE, halves(DOUBLE, ("a", "b")) == (FOUR, SIDE), leaves(DOUBLE) == (FOUR, SIDE),
            leaves(FOUR) == (FOUR,),
        ]
        self.assertEqual(found, ["frame of 6 pins, 10 rods", False, True, True, True])
        self.assertEqual([summed_weights(FOUR, LEFT, SIDE, RIGHT)[rod] for rod in pairs("ac cd ef")], [-2, -6, -5])
        self.refused(Refused, two_sum, FOUR, FOUR, kept=("common", ("a", "b", "c", "d")))

    def test_two_sums(self):
        rng = random.Random(111)
        refused = {"common": 0, "rod": 0, "many": 0, "made": 0}
        for _ in range(800):
            one, other = random_frame(rng, rng.randrange(1, 8)), random_frame(rng, rng.randrange(1, 7))
            other = other.renamed(dict(zip(other.pins, rng.sample("abcdefghklmn", len(other.pins)))))
            common = tuple(pin for pin in one.pins if pin in other.pins)
            if len(common) != 2:
                self.refused(Refused, two_sum, one, other, kept=("common", common))
                refused["common"] += 1
            elif common not in one or common not in other:
                self.refused(Refused, two_sum, one, other, kept=("rod", common))
                refused["rod"] += 1
            elif len(set(one.pins + other.pins)) > 8:
                self.refused(TooMany, two_sum, one, other, kept=8)
                refused["many"] += 1
            else:
                whole = two_sum(one, other)
                self.assertEqual(whole.pins, tuple(sorted(set(one.pins + other.pins))))
                self.assertEqual(whole.rods, tuple(sorted(set(one.rods + other.rods) - {common})))
                self.assertEqual(whole, two_sum(other, one))
                refused["made"] += 1
        self.assertGreater(min(refused.values()), 3)

    def test_eight_pins_and_nine(self):
        five = Frame(("a", "b", "f", "g", "h"), pairs("ab af bg fg gh"))
        self.assertEqual(len(two_sum(WHEEL, five).pins), 8)
        self.refused(TooMany, two_sum, WHEEL, five.with_pin("i", "a"), kept=8)
        self.refused(Refused, two_sum, WHEEL, five.without_rod("a", "b").with_pin("i"), kept=("rod", ("a", "b")))
        self.refused(Refused, two_sum, EIGHT, five, kept=("common", ("a", "b", "f", "g", "h")))

    def test_two_sums_of_circuits_and_their_halves(self):
        rng = random.Random(112)
        for _ in range(60):
            frame = random_circuit(rng, rng.randrange(4, 9))
            self.assertIs(is_circuit(frame), True)
            self.check_circuit(rng, frame)

    def test_all_circuits_of_few_pins(self):
        rng = random.Random(113)
        frames = [frame for pins in ("abcd", "abcde") for frame in all_frames(pins)]
        frames += [renamed_at_random(rng, frame) for frame in shapes("abcdef")] + list(NAMED)
        circuits = 0
        for frame in frames:
            if oracles.is_circuit_lot(frame.rods, 2) and oracles.ends(frame.rods) == frame.pins:
                self.check_circuit(rng, frame)
                circuits += 1
            else:
                self.refused(Refused, leaves, frame, kept=("circuit",))
                if len(frame.pins) >= 2:
                    self.refused(Refused, halves, frame, frame.pins[:2], kept=("circuit",))
        self.assertGreater(circuits, 15)

    def check_circuit(self, rng, frame):
        for lot in itertools.combinations(frame.pins, 2):
            if len(oracles.pieces(frame, lot)) < 2:
                self.refused(Refused, halves, frame, lot, kept=("whole",))
                continue
            self.assertNotIn(lot, frame)
            found = halves(frame, lot)
            self.assertEqual(found, own_halves(frame, lot))
            self.assertEqual((len(found), two_sum(*found)), (2, frame))
            self.assertTrue(all(is_circuit(half) and len(half.pins) < len(frame.pins) for half in found))
            self.assertIn(next(pin for pin in frame.pins if pin not in lot), found[0].pins)
        parts = leaves(frame)
        self.assertIsInstance(parts, tuple)
        for _ in range(3):
            self.assertEqual([(part.pins, part.rods) for part in parts], own_leaves(rng, frame))
        for part in parts:
            self.assertEqual((cuts(part, 2), is_circuit(part), is_told(part)), ((), True, True))
        self.assertEqual(parts == (frame,), cuts(frame, 2) == ())

    def test_leaves_in_order(self):
        chain = two_sum(DOUBLE, Frame.full(("c", "d", "g", "h")))
        found = (FOUR, SIDE, Frame.full(("c", "d", "g", "h")))
        self.assertEqual(leaves(chain), found)
        self.assertEqual(cuts(chain, 2), (("a", "b"), ("c", "d")))
        star = two_sum(two_sum(FOUR, Frame.full(("a", "b", "e", "f"))), Frame.full(("a", "c", "g", "h")))
        self.assertEqual(leaves(star), (FOUR, SIDE, Frame.full(("a", "c", "g", "h"))))

    def test_summed_weights(self):
        rng = random.Random(114)
        for _ in range(60):
            one, other = random_circuit(rng, rng.randrange(4, 6)), random_circuit(rng, rng.randrange(4, 6))
            rod, against = rng.choice(one.rods), rng.choice(other.rods)
            rest = iter("nopqrs")
            other = other.renamed({
                pin: rod[against.index(pin)] if pin in against else next(rest) for pin in other.pins})
            placing = {pin: (rng.randrange(-9, 10), rng.randrange(-9, 10))
                       for pin in sorted(set(one.pins + other.pins))}
            first, second = self.some_balance(rng, one, placing), self.some_balance(rng, other, placing)
            self.check_sum(one, first, other, second, rod, placing)

    def some_balance(self, rng, frame, placing):
        """Weights in balance that are integers."""
        found = {rod: 0 for rod in frame.rods}
        for weights in oracles.balances(frame, {pin: placing[pin] for pin in frame.pins}):
            scale = 1
            for weight in weights.values():
                scale = scale * weight.denominator // gcd(scale, weight.denominator)
            by = rng.randrange(-3, 4) * scale
            found = {rod: found[rod] + int(by * weights[rod]) for rod in found}
        return found

    def check_sum(self, one, first, other, second, rod, placing):
        x, y = first[rod], second[rod]
        if x == y == 0:
            self.refused(Refused, summed_weights, one, first, other, second, kept=("nothing",))
            return
        found = summed_weights(one, first, other, second)
        whole = two_sum(one, other)
        by = gcd(x, y)
        wanted = {each: weight * y // by for each, weight in first.items() if each != rod}
        wanted.update({each: -weight * x // by for each, weight in second.items() if each != rod})
        self.assertEqual(found, wanted)
        self.assertEqual(list(found), list(whole.rods))
        self.assertTrue(oracles.is_in_balance(whole, placing, found))

    def test_common_weights_of_0(self):
        none, null = {**LEFT, ("a", "b"): 0}, {**RIGHT, ("a", "b"): 0}
        self.refused(Refused, summed_weights, FOUR, none, SIDE, null, kept=("nothing",))
        found = summed_weights(FOUR, none, SIDE, RIGHT)
        self.assertEqual((found[("c", "d")], found[("e", "f")]), (-3, 0))
        found = summed_weights(FOUR, LEFT, SIDE, null)
        self.assertEqual((found[("c", "d")], found[("e", "f")]), (0, -5))
        found = summed_weights(FOUR, {**LEFT, ("a", "b"): -2}, SIDE, null)
        self.assertEqual((found[("c", "d")], found[("e", "f")]), (0, 5))

    def test_long_weights(self):
        left = {**LEFT, ("a", "b"): LONGEST, ("c", "d"): LONGEST}
        right = {**RIGHT, ("a", "b"): 2, ("e", "f"): LONGEST - 1}
        found = summed_weights(FOUR, left, SIDE, right)
        self.assertEqual((found[("c", "d")], found[("e", "f")]), (2 * LONGEST, -LONGEST * (LONGEST - 1)))
        left[("c", "d")] = TOO_LONG
        self.refused(InvalidWeights, summed_weights, FOUR, left, SIDE, right)

    def test_lots_that_are_wrong_in_one_place(self):
        for lot in (("b", "a"), ["a", "b"], ("a",), ("a", "b", "c"), ("a", "a"), ("a", "x"), (), None, "ab", ("a", 1),
                    ("a", True), (("a", "b"),), {"a": "b"}):
            self.refused(InvalidOperation, halves, DOUBLE, lot)
            self.refused(InvalidOperation, halves, KITE, lot)
        self.refused(Refused, halves, TWIN, ("a", "b"), kept=("circuit",))
        self.refused(Refused, halves, DOUBLE, ("a", "c"), kept=("whole",))
        self.refused(Refused, halves, WHEEL, ("a", "b"), kept=("whole",))

    def test_which_refusal_comes_first(self):
        no_rod = SIDE.without_rod("a", "b")
        zero, null = {rod: 0 for rod in FOUR}, {rod: 0 for rod in SIDE}
        self.refused(Refused, summed_weights, FOUR, zero, SINGLE, {}, kept=("common", ("a",)))
        self.refused(Refused, summed_weights, FOUR, zero, no_rod, {rod: 0 for rod in no_rod}, kept=("rod", ("a", "b")))
        wide = Frame(("a", "b", "s", "t", "u", "v", "w"), pairs("ab"))
        self.refused(TooMany, summed_weights, FOUR, zero, wide, {("a", "b"): 0}, kept=8)
        self.refused(Refused, summed_weights, FOUR, zero, SIDE, null, kept=("nothing",))
        self.refused(InvalidWeights, summed_weights, FOUR, {}, None, None)
        self.refused(InvalidFrame, summed_weights, FOUR, zero, None, None)

    def test_wrong_arguments(self):
        self.check_arguments(two_sum, [
            (DOUBLE, InvalidFrame, is_frame), (Frame(("c", "d"), pairs("cd")), InvalidFrame, is_frame)])
        self.check_arguments(leaves, [(WHEEL, InvalidFrame, is_frame)])
        self.check_arguments(halves, [
            (DOUBLE, InvalidFrame, is_frame), (("a", "b"), InvalidOperation, lambda value: value == ("a", "b"))])
        self.check_arguments(summed_weights, [
            (FOUR, InvalidFrame, is_frame), (LEFT, InvalidWeights, never), (SIDE, InvalidFrame, is_frame),
            (RIGHT, InvalidWeights, never)])
        for wrong in ({**LEFT, ("a", "b"): True}, {rod: LEFT[rod] for rod in KITE}, {**LEFT, ("a", "e"): 1}):
            self.refused(InvalidWeights, summed_weights, FOUR, wrong, SIDE, RIGHT)

    def test_what_is_not_true(self):
        # The two-sum of two told frames need not be told, nor that of firm ones firm.
        self.assertEqual((is_told(FOUR), is_told(SIDE), is_told(DOUBLE)), (True, True, False))
        triangle = Frame.full(("a", "b", "x"))
        self.assertIs(oracles.is_firm(two_sum(triangle, Frame.full(("a", "b", "y"))), 2), False)

    def test_arguments_stay_and_answers_repeat(self):
        left, right = dict(reversed(list(LEFT.items()))), dict(reversed(list(RIGHT.items())))
        before = told((left, right))
        found = summed_weights(one=FOUR, first=left, other=SIDE, second=right)
        self.assertEqual(told(found), told(summed_weights(FOUR, LEFT, SIDE, RIGHT)))
        found.clear()
        self.assertEqual(told((left, right)), before)
        self.assertEqual(two_sum(one=FOUR, other=SIDE), DOUBLE)
        self.assertEqual(halves(frame=DOUBLE, lot=("a", "b")), halves(DOUBLE, ("a", "b")))
        self.assertEqual(leaves(frame=DOUBLE), leaves(DOUBLE))
