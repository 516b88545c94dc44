"""Blocks and circuits: promises 4.4 to 4.9."""

import random
import unittest

from lengthstell.count.blocks import (
    bearing_lots,
    blocks,
    circuit_with,
    filled,
    is_circuit,
    is_parting,
    parting,
    parting_sum,
    spare_rods,
)
from lengthstell.count.counts import count_rank
from lengthstell.errors import InvalidFrame, InvalidNumber, InvalidOperation, InvalidRod
from lengthstell.frame.frames import Frame
from tests import oracles
from tests.examples import (
    BOW,
    EIGHT,
    FOUR,
    JOINED,
    KITE,
    LOOSE_EIGHT,
    NAMED,
    RING,
    SINGLE,
    THREES,
    TOO_LONG,
    TWIN,
    WHEEL,
    all_frames,
    pairs,
    random_frame,
    subsets,
)
from tests.refusals import WRONG, Refusals, is_frame, is_space_number, never, told

AB = ("a", "b")
SPACE = {"space": (2, InvalidNumber, is_space_number)}


def is_rod_of_four(value):
    return value in FOUR.rods


class BlocksTest(Refusals):

    def test_examples(self):
        found = [
            blocks(BOW), blocks(BOW, space=1), blocks(TWIN) == (TWIN.pins,),
            parting_sum(BOW, (pairs("ab ac bc"), pairs("cd ce de"))),
            is_parting(BOW, (pairs("ab ac bc cd ce de"),)),
        ]
        self.assertEqual(found, [
            (("a", "b", "c"), ("c", "d", "e")), (("a", "b", "c", "d", "e"),), True, 6, False,
        ])
        found = [
            spare_rods(KITE), spare_rods(TWIN) == TWIN.rods, len(bearing_lots(KITE)), len(bearing_lots(TWIN)),
            len(bearing_lots(BOW, space=1)), circuit_with(KITE, AB), circuit_with(BOW, AB, space=1),
            is_circuit(FOUR), is_circuit(TWIN),
        ]
        self.assertEqual(found, [
            (), True, 5, 1, 2, None, (("a", "b"), ("a", "c"), ("b", "c")), True, False,
        ])
        self.assertEqual([filled(KITE) == FOUR, filled(BOW) == BOW, len(filled(BOW, space=1))], [True, True, 10])

    def test_one_pin_and_no_rods(self):
        for frame in (SINGLE, LOOSE_EIGHT):
            for space in (1, 2):
                self.assertEqual((blocks(frame, space=space), parting(frame, space=space)), ((), ()))
                self.assertIs(is_parting(frame, (), space=space), True)
                self.assertEqual(parting_sum(frame, (), space=space), 0)
                self.assertEqual((spare_rods(frame, space=space), bearing_lots(frame, space=space)), ((), ()))
                self.assertIs(is_circuit(frame, space=space), False)
                self.assertEqual(filled(frame, space=space), frame)

    def test_full_frames_of_eight_pins(self):
        for space in (1, 2):
            self.assertEqual((blocks(EIGHT, space=space), parting(EIGHT, space=space)), ((EIGHT.pins,), (EIGHT.rods,)))
            self.assertEqual((spare_rods(EIGHT, space=space), bearing_lots(EIGHT, space=space)),
                             (EIGHT.rods, (EIGHT.rods,)))
            self.assertIs(is_circuit(EIGHT, space=space), False)
        self.assertEqual((parting_sum(EIGHT, (EIGHT.rods,)), parting_sum(EIGHT, (EIGHT.rods,), space=1)), (13, 7))

    def test_all_frames_of_four_pins(self):
        for frame in all_frames("abcd"):
            for space in (1, 2):
                self.check_frame(frame, space)
                self.check_circuits_by_all_lots(frame, space)
                for lots in oracles.partings(frame.rods):
                    wanted = oracles.parting_sum(lots, space)
                    self.assertEqual(parting_sum(frame, lots, space=space), wanted)
                    self.assertIs(is_parting(frame, lots, space=space), wanted == count_rank(frame, space=space))

    def test_all_frames_of_five_pins(self):
        for frame in all_frames("abcde"):
            for space in (1, 2):
                self.check_frame(frame, space)

    def test_random_frames(self):
        rng = random.Random(51)
        frames = [random_frame(rng, rng.randrange(6, 9)) for _ in range(25)]
        for frame in frames + list(NAMED):
            for space in (1, 2):
                self.check_frame(frame, space)
                if len(frame.rods) <= 11:
                    self.check_circuits_by_all_lots(frame, space)

    def check_frame(self, frame, space):
        found = blocks(frame, space=space)
        self.assertEqual(found, oracles.blocks(frame, space))
        self.check_parting(frame, found, space)
        spare = oracles.spare_rods(frame, space)
        self.assertEqual(spare_rods(frame, space=space), spare)
        for rod in frame.rods:
            circuit = circuit_with(frame, rod, space=space)
            if rod not in spare:
                self.assertIsNone(circuit)
            else:
                self.assertIn(rod, circuit)
                self.assertEqual(circuit, tuple(sorted(set(circuit) & set(frame.rods))))
                self.assertIs(oracles.is_circuit_lot(circuit, space), True)
        circuit = oracles.is_circuit_lot(frame.rods, space) and oracles.ends(frame.rods) == frame.pins
        self.assertIs(is_circuit(frame, space=space), circuit)
        self.check_filled(frame, found, space)

    def check_parting(self, frame, found, space):
        lots = parting(frame, space=space)
        self.assertEqual(sum(len(lot) for lot in lots), len(frame.rods))
        self.assertEqual(sorted(rod for lot in lots for rod in lot), list(frame.rods))
        self.assertEqual(lots, tuple(sorted(tuple(sorted(lot)) for lot in lots)))
        self.assertIs(is_parting(frame, lots, space=space), True)
        self.assertEqual(parting_sum(frame, lots, space=space), count_rank(frame, space=space))
        by_blocks = tuple(sorted(frame.part(block).rods for block in found))
        self.assertIs(is_parting(frame, by_blocks, space=space), True)

    def check_filled(self, frame, found, space):
        full = filled(frame, space=space)
        self.assertEqual(full.pins, frame.pins)
        inside = {pair for block in found for pair in Frame.full(block).rods}
        self.assertEqual(full.rods, tuple(sorted(inside)))
        self.assertEqual(blocks(full, space=space), found)
        self.assertEqual(count_rank(full, space=space), count_rank(frame, space=space))

    def check_circuits_by_all_lots(self, frame, space):
        self.assertEqual(bearing_lots(frame, space=space), oracles.bearing_lots(frame, space))
        found = oracles.circuits(frame, space)
        for rod in frame.rods:
            wanted = [circuit for circuit in found if rod in circuit]
            circuit = circuit_with(frame, rod, space=space)
            self.assertTrue(circuit in wanted if wanted else circuit is None)

    def test_bearing_lots(self):
        self.assertEqual(bearing_lots(JOINED), (pairs("ab ac ad bc bd cd"), pairs("de df dg ef eg fg")))
        self.assertEqual(bearing_lots(FOUR.with_pin("e", "a")), (pairs("ab ac ad bc bd cd"), pairs("ae")))
        self.assertEqual(bearing_lots(THREES), tuple((rod,) for rod in THREES.rods))
        self.assertEqual(bearing_lots(THREES, space=1), (THREES.rods,))
        self.assertEqual(bearing_lots(BOW, space=1), (pairs("ab ac bc"), pairs("cd ce de")))

    def test_circuits(self):
        self.assertIs(is_circuit(WHEEL), True)
        self.assertIs(is_circuit(RING), False)
        self.assertIs(is_circuit(RING, space=1), True)
        self.assertIs(is_circuit(TWIN.without_rod("a", "b")), True)
        self.assertIs(is_circuit(FOUR.with_pin("e")), False)
        self.assertIs(is_circuit(FOUR.with_pin("e", "a")), False)
        self.assertIs(is_circuit(JOINED), False)
        for space in (1, 2):
            self.assertIs(is_circuit(Frame(AB, (AB,)), space=space), False)
            self.assertIs(is_circuit(Frame(AB), space=space), False)
        self.assertEqual(circuit_with(JOINED, ("e", "f")), pairs("de df dg ef eg fg"))
        self.assertEqual(circuit_with(frame=WHEEL, rod=AB, space=2), WHEEL.rods)
        self.assertIs(circuit_with(WHEEL, ("a", "e"), space=1) is None, False)

    def test_partings_of_others(self):
        singles = tuple((rod,) for rod in KITE.rods)
        self.assertIs(is_parting(KITE, singles), True)
        self.assertIs(is_parting(KITE, (KITE.rods,)), True)
        self.assertIs(is_parting(KITE, (pairs("ab ac bc"), pairs("ad bd"))), False)
        self.assertIs(is_parting(KITE, (pairs("ab ac bc"), pairs("ad"), pairs("bd"))), True)
        self.assertIs(is_parting(KITE, (KITE.rods,), space=1), True)
        self.assertIs(is_parting(KITE, singles, space=1), False)
        self.assertIs(is_parting(FOUR, tuple((rod,) for rod in FOUR.rods)), False)

    def test_partings_that_are_wrong_in_one_place(self):
        wrong = (
            (), None, list(KITE.rods), [KITE.rods], (list(KITE.rods),), KITE.rods, KITE,
            (pairs("ab ac ad bc"),), (pairs("ab ac ad bc bd cd"),), (pairs("ac ab ad bc bd"),),
            (pairs("ab ac ad bc bd bd"),), (pairs("ba ac ad bc bd"),), ((), KITE.rods), (KITE.rods, ()),
            (pairs("ad bd"), pairs("ab ac bc")), (pairs("ab ac bc"), pairs("ab ad bd")),
            (pairs("ab ac bc"), pairs("ad bd"), pairs("cd")), (pairs("ab ac bc"), (("a", "d"), None)),
            (pairs("ab ac bc"), (("a", "d"), ["b", "d"])), (pairs("ab ac bc"), None), (KITE.rods, KITE.rods),
            ((AB, True),), (KITE,),
        )
        for value in wrong:
            self.assertIs(is_parting(KITE, value), False)
        for value in WRONG:
            self.assertIs(is_parting(WHEEL, value), False)
            self.assertIs(is_parting(SINGLE, value), isinstance(value, tuple) and value == ())

    def test_sums_of_partings(self):
        self.assertEqual(parting_sum(KITE, ()), 0)
        self.assertEqual(parting_sum(KITE, (pairs("ac"),)), 1)
        self.assertEqual(parting_sum(KITE, (pairs("ac bd"),)), 5)
        self.assertEqual(parting_sum(frame=KITE, lots=(pairs("ac bd"),), space=1), 3)
        self.assertEqual(parting_sum(KITE, (pairs("ac"), pairs("bd"))), 2)
        wrong = (
            ((),), [pairs("ac")], (list(pairs("ac")),), (pairs("cd"),), (pairs("ca"),), (pairs("bd"), pairs("ac")),
            (pairs("ac"), pairs("ac")), (pairs("ac"), pairs("ac bd")), (pairs("bd ac"),), (pairs("ac ac"),),
            pairs("ac"), (("ac",),), (None,), ((None,),), ((AB, 1),), None, {}, KITE, (KITE,),
        )
        for lots in wrong:
            self.refused(InvalidOperation, parting_sum, KITE, lots)
            self.refused(InvalidOperation, parting_sum, KITE, lots, space=3)

    def test_wrong_arguments(self):
        frame = (FOUR, InvalidFrame, is_frame)
        for call in (blocks, parting, spare_rods, bearing_lots, is_circuit, filled):
            self.check_arguments(call, [frame], SPACE)
        self.check_arguments(is_parting, [frame, (None, None, never)], SPACE)
        self.check_arguments(
            parting_sum, [frame, ((), InvalidOperation, lambda value: value in ((), (pairs("ab"),)))], SPACE)
        self.check_arguments(circuit_with, [frame, (AB, InvalidRod, is_rod_of_four)], SPACE)
        for rod in (("b", "a"), ("a", "a"), ("a", "x"), ["a", "b"], "ab", None, (AB,), ("a", "b", "c")):
            self.refused(InvalidRod, circuit_with, FOUR, rod)
            self.refused(InvalidRod, circuit_with, FOUR, rod, space=0)
        self.refused(InvalidRod, circuit_with, KITE, ("c", "d"))
        for space in (0, 3, True, None, TOO_LONG, "2"):
            self.refused(InvalidNumber, is_parting, FOUR, None, space=space, kept=space)

    def test_the_space_is_told_by_keyword(self):
        for call in (blocks, parting, spare_rods, bearing_lots, is_circuit, filled):
            with self.assertRaises(TypeError):
                call(FOUR, 2)
            self.assertEqual(call(FOUR), call(frame=FOUR, space=2))

    def test_a_rod_more_and_a_rod_less(self):
        rng = random.Random(52)
        for _ in range(25):
            frame = random_frame(rng, rng.randrange(2, 8))
            for space in (1, 2):
                for pair in frame.missing:
                    after = blocks(frame.with_rod(*pair), space=space)
                    for block in blocks(frame, space=space):
                        self.assertTrue(any(set(block) <= set(other) for other in after))
                spare = spare_rods(frame, space=space)
                for rod in frame.rods:
                    less = count_rank(frame, space=space) - count_rank(frame.without_rod(*rod), space=space)
                    self.assertEqual(less, int(rod not in spare))

    def test_arguments_stay(self):
        frames = [WHEEL, TWIN, KITE]
        before = told(frames)
        lots = parting(TWIN)
        shown = told(lots)
        for frame in frames:
            for call in (blocks, parting, spare_rods, bearing_lots, is_circuit, filled):
                self.assertEqual(told(call(frame)), told(call(frame)))
            circuit_with(frame, AB)
        is_parting(TWIN, lots)
        parting_sum(TWIN, lots)
        self.assertEqual((told(frames), told(lots)), (before, shown))

    def test_small_oracle(self):
        for lot in subsets(FOUR.rods):
            for space in (1, 2):
                self.assertIs(oracles.is_sparse(lot, space), oracles.is_sparse_by_lots(lot, space))


if __name__ == "__main__":
    unittest.main()
