"""Stands: promises 11.1, 11.4, 11.5 and 11.6."""

import itertools
import random

from lengthstell.errors import InvalidFrame, InvalidOperation, InvalidStand
from lengthstell.frame.frames import Frame
from lengthstell.count.counts import count_rank
from lengthstell.ground.parts import heads
from lengthstell.ground.stands import (
    Stand,
    is_firm_stand,
    is_just_firm,
    is_stand_parting,
    spare_ties,
    stand_parting,
    stand_rank,
)
from lengthstell.ground.places import rank_at_place
from tests import stands as slow
from tests.examples import EIGHT, FOUR, KITE, NAMED, SINGLE, TOO_LONG, all_frames, pairs, subsets
from tests.refusals import WRONG, Refusals, is_frame, is_stand, never, told
from tests.stands import (
    ARM,
    BARE,
    DEALT,
    DOUBLE,
    EVEN,
    LADDER,
    LONE,
    MANY,
    TRIPOD,
    random_just_firm_stand,
    random_stand,
    rods,
    slides,
)

THREE = Frame.full(("a", "b", "c"))
NAMED_STANDS = (TRIPOD, EVEN, DOUBLE, LADDER, ARM, LONE, BARE, DEALT, MANY)


def all_stands(pins):
    """All stands with just these pins."""
    for frame in all_frames(pins):
        for many in itertools.product((0, 1, 2), repeat=len(pins)):
            yield Stand(frame, {pin: number for pin, number in zip(frame.pins, many) if number > 0})


class StandTest(Refusals):

    def test_examples(self):
        found = [
            TRIPOD.ties[3:], TRIPOD.held, TRIPOD.inner, len(TRIPOD), ("slide", "b", 1) in TRIPOD, str(TRIPOD),
        ]
        self.assertEqual(found, [
            (("slide", "a", 0), ("slide", "a", 1), ("slide", "b", 0)), ("a",), ("b", "c"), 6, False,
            "stand of 3 pins, 3 rods, 3 slides",
        ])
        found = [
            stand_rank(TRIPOD), is_just_firm(TRIPOD), is_stand_parting(TRIPOD, (("a", "b", "c"), ())),
            spare_ties(TRIPOD), len(spare_ties(TRIPOD.with_tie(("slide", "c", 0)))),
        ]
        self.assertEqual(found, [6, True, True, (), 7])
        self.assertIs(is_just_firm(EVEN), True)
        value = (("g", "h"), (pairs("ab ac ad bc bd cd"), pairs("ag"), pairs("bh")))
        self.assertEqual([len(DOUBLE), stand_rank(DOUBLE), is_stand_parting(DOUBLE, value)], [12, 11, True])

    def test_what_a_stand_tells(self):
        stand = Stand(KITE, {"d": 1, "a": 2})
        self.assertEqual(stand.frame, KITE)
        self.assertEqual(list(stand.slides.items()), [("a", 2), ("d", 1)])
        self.assertEqual(stand.ties, rods("ab ac ad bc bd") + slides(("a", 0), ("a", 1), ("d", 0)))
        self.assertEqual((stand.held, stand.inner), (("a",), ("b", "c", "d")))
        self.assertEqual((list(stand), len(stand)), (list(stand.ties), 8))
        self.assertEqual(str(stand), "stand of 4 pins, 5 rods, 3 slides")
        self.assertEqual(str(BARE), "stand of 2 pins, 0 rods, 0 slides")
        self.assertEqual((BARE.slides, BARE.ties, BARE.held, BARE.inner, len(BARE)), ({}, (), (), ("a", "b"), 0))
        self.assertEqual(str(LONE), "stand of 1 pins, 0 rods, 2 slides")

    def test_members(self):
        stand = Stand(KITE, {"d": 1, "a": 2})
        for tie in stand.ties:
            self.assertIs(tie in stand, True)
        others = [
            ("rod", "b", "a"), ("rod", "c", "d"), ("slide", "d", 1), ("slide", "b", 0), ("slide", "a", 2), ("slide", "a"),
            ("slide", "a", -1), ("a", "b"), ("rods", "a", "b"), ["rod", "a", "b"], ("rod", "a", "b", "c"), ("slide", "z", 0),
            ("slide", "a", True), ("slide", "a", False), ("slide", "d", False), ("slide", "a", None), ("rod", "a", 1),
            ("slide", "a", TOO_LONG), ("slide", "a", "0"),
        ]
        for value in others + [value for value in WRONG if value != ("rod", "a", "b")]:
            self.assertIs(value in stand, False)

    def test_equal_stands(self):
        stand = Stand(KITE, {"d": 1, "a": 2})
        self.assertTrue(stand == Stand(Frame(("d", "c", "b", "a"), KITE.rods[::-1]), {"a": 2, "d": 1}))
        self.assertFalse(stand != Stand(KITE, {"d": 1, "a": 2}))
        for other in (Stand(KITE, {"a": 2}), Stand(KITE, {"a": 2, "d": 2}), Stand(FOUR, {"d": 1, "a": 2}), KITE, stand.ties):
            self.assertTrue(stand != other)
            self.assertFalse(stand == other)
        for value in WRONG:
            self.assertFalse(stand == value)

    def test_held_at(self):
        self.assertEqual(Stand.held_at(FOUR, ()), Stand(FOUR, {}))
        self.assertEqual(Stand.held_at(FOUR, ("b", "d")), Stand(FOUR, {"b": 2, "d": 2}))
        self.assertEqual(Stand.held_at(frame=FOUR, lot=FOUR.pins).held, FOUR.pins)
        for wrong in (("b", "a"), ("a", "a"), ("e",), "a", ["a"], None, ("a", 1), (("a", "b"),), TOO_LONG):
            self.refused(InvalidOperation, Stand.held_at, FOUR, wrong)
        self.check_arguments(Stand.held_at, [
            (FOUR, InvalidFrame, is_frame), (("a",), InvalidOperation, lambda value: value in ((), ("a",), ("a", "b"))),
        ])

    def test_ties_put_in_and_taken_out(self):
        rng = random.Random(1111)
        for _ in range(40):
            stand = random_stand(rng, rng.randrange(1, 6))
            every = [("rod", *pair) for pair in itertools.combinations(stand.frame.pins, 2)]
            every += [("slide", pin, at) for pin in stand.frame.pins for at in (0, 1)]
            for tie in every:
                many = stand.slides.get(tie[1], 0)
                if tie not in stand and (tie[0] == "rod" or tie[2] == many):
                    longer = stand.with_tie(tie)
                    self.assertEqual(longer.ties, tuple(sorted(stand.ties + (tie,))))
                    self.assertEqual(longer.without_tie(tie), stand)
                else:
                    self.refused(InvalidOperation, stand.with_tie, tie)
                if tie not in stand:
                    self.refused(InvalidOperation, stand.without_tie, tie)
                elif tie[0] == "rod":
                    self.assertEqual(stand.without_tie(tie), Stand(stand.frame.without_rod(*tie[1:]), stand.slides))
                else:
                    left = {pin: many for pin, many in stand.slides.items() if pin != tie[1]}
                    left.update({tie[1]: 1} if many == 2 else {})
                    self.assertEqual(stand.without_tie(tie), Stand(stand.frame, left))

    def test_wrong_ties(self):
        stand = Stand(KITE, {"d": 1, "a": 2})
        self.assertEqual(stand.with_tie(tie=("slide", "b", 0)).slides, {"a": 2, "b": 1, "d": 1})
        self.assertEqual(stand.without_tie(tie=("slide", "a", 0)).ties[-2:], slides(("a", 0), ("d", 0)))
        self.assertEqual(stand.without_tie(("slide", "a", 1)), stand.without_tie(("slide", "a", 0)))
        for tie in (
            ("rod", "a", "b"), ("rod", "d", "c"), ("rod", "a", "a"), ("rod", "a", "e"), ("slide", "a", 2), ("slide", "b", 1),
            ("slide", "b", False), ("slide", "d", True), ("slide", "d", 0), ("slide", "e", 0), ("c", "d"), ["rod", "c", "d"],
            ("slide", "b"), ("slide", "b", 0, 0), ("rod", "c", "d", "d"),
        ):
            self.refused(InvalidOperation, stand.with_tie, tie)
        for tie in (("slide", "a", True), ("slide", "a", False), ("slide", "d", False), ("rod", "c", "d"), ("slide", "b", 0)):
            self.refused(InvalidOperation, stand.without_tie, tie)
        for value in WRONG:
            self.refused(InvalidOperation, stand.with_tie, value)
            if value != ("rod", "a", "b"):
                self.refused(InvalidOperation, stand.without_tie, value)

    def test_wrong_slides(self):
        for wrong in (
            {"a": 0}, {"a": 3}, {"a": True}, {"a": False}, {"a": None}, {"a": "1"}, {"a": (1,)}, {"e": 1}, {1: 1}, {None: 1},
            {("a",): 1}, {"a": 1, "e": 2}, {"a": TOO_LONG}, [("a", 1)], (("a", 1),), ("a",), "a", None, 1, {"a": -1}, {"a": 1, "b": 0},
        ):
            self.refused(InvalidStand, Stand, FOUR, wrong)
        self.check_arguments(Stand, [(FOUR, InvalidFrame, is_frame), ({"a": 1}, InvalidStand, lambda value: value in ({}, {"a": 1}))])

    def test_ranks_of_all_small_stands(self):
        for pins in ("a", "ab", "abc"):
            for stand in all_stands(pins):
                self.check_ranks(stand)
                self.assertEqual(slow.least_sum(stand), slow.least_sum_of_all(stand))

    def test_ranks_of_many_stands(self):
        rng = random.Random(1114)
        for _ in range(80):
            self.check_ranks(random_stand(rng, rng.randrange(4, 7)))
        for many in range(1, 9):
            self.check_ranks(random_stand(rng, many))
        for stand in NAMED_STANDS + tuple(Stand(frame, {}) for frame in NAMED):
            self.check_ranks(stand)
        for _ in range(20):
            stand = random_just_firm_stand(rng, rng.randrange(1, 6))
            self.check_ranks(stand)
            self.check_ranks(stand.without_tie(rng.choice(stand.ties)))

    def check_ranks(self, stand):
        whole = slow.least_sum(stand)
        most = 2 * len(stand.frame.pins)
        self.assertEqual(stand_rank(stand), whole)
        self.assertIs(is_firm_stand(stand), whole == most)
        self.assertIs(is_just_firm(stand), whole == most == len(stand))
        self.assertIs(is_just_firm(stand), slow.is_just_firm_by_lots(stand))
        if len(stand.frame.pins) < 7 or len(stand.frame) < 12:
            spare = tuple(tie for tie in stand.ties if slow.least_sum(stand.without_tie(tie)) == whole)
            self.assertEqual(spare_ties(stand), spare)
        found = stand_parting(stand)
        self.assertIsInstance(found, tuple)
        self.assertTrue(slow.is_stand_parting(stand, found))
        self.assertIs(is_stand_parting(stand, found), True)

    def test_partings_of_others(self):
        rng = random.Random(1115)
        for _ in range(25):
            stand = random_stand(rng, rng.randrange(1, 5))
            some = [
                (lot, lots) for lot in subsets(stand.frame.pins)
                for lots in slow.oracles.partings(slow.rods_outside(stand, lot))
            ]
            least = slow.least_sum(stand)
            right = [value for value in some if slow.sum_outside(stand, *value) == least]
            self.assertIn(stand_parting(stand), right)
            for value in right + rng.sample(some, min(len(some), 60)):
                self.assertIs(is_stand_parting(stand, value), value in right)

    def test_partings_that_are_wrong_in_one_place(self):
        right = (("g", "h"), (pairs("ab ac ad bc bd cd"), pairs("ag"), pairs("bh")))
        self.assertIs(is_stand_parting(DOUBLE, right), True)
        self.assertIs(is_stand_parting(DOUBLE, (("g",), right[1])), True)
        self.assertIs(is_stand_parting(stand=DOUBLE, value=(("a", "b", "c", "d", "g", "h"), ())), False)
        wrong = [
            list(right), right + ((),), right[:1], (right[1], right[0]), (["g", "h"], right[1]), (("h", "g"), right[1]),
            (("a",), right[1]), (("g", "h", "i"), right[1]), (("g", "h"), list(right[1])), (("g", "h"), right[1][::-1]),
            (("g", "h"), right[1][1:]), (("g", "h"), right[1] + (pairs("gh"),)), (("g", "h"), right[1] + ((),)),
            (("g", "h"), (pairs("ab ac ad bc bd cd"), pairs("ag bh"))), (("g", "h"), (pairs("ab ac ad bd bc cd"), pairs("ag"), pairs("bh"))),
            (("g", "h"), (pairs("ab ac ad bc bd cd"), (("rod", "a", "g"),), pairs("bh"))), (("a", "g", "h"), right[1]),
            (("g", "h"), (pairs("ab ac ad bc bd"), pairs("ag"), pairs("bh"), pairs("cd"))), ("g", right[1]), (True, ()),
        ]
        for value in wrong + list(WRONG):
            self.assertIs(is_stand_parting(DOUBLE, value), False)
        self.assertIs(is_stand_parting(BARE, ((), ())), True)
        self.assertIs(is_stand_parting(BARE, ([], ())), False)

    def test_statements(self):
        rng = random.Random(1116)
        for _ in range(40):
            stand = random_stand(rng, rng.randrange(1, 7))
            self.assertEqual(stand_rank(Stand(stand.frame, {})), count_rank(stand.frame))
            bare = Stand(Frame(stand.frame.pins), stand.slides)
            self.assertEqual(stand_rank(bare), len(bare))
            if is_firm_stand(stand):
                self.assertTrue(stand.frame.pins == ("a",) or len(stand.slides) >= 2)
                self.assertTrue(stand.frame.pins == ("a",) or sum(stand.slides.values()) >= 3)
            firm = random_just_firm_stand(rng, rng.randrange(1, 7))
            for _ in range(3):
                open_ties = [("rod", *pair) for pair in firm.frame.missing]
                open_ties += [("slide", pin, firm.slides.get(pin, 0)) for pin in firm.inner]
                if open_ties:
                    firm = firm.with_tie(rng.choice(open_ties))
                    self.assertEqual((stand_rank(firm), is_firm_stand(firm), is_just_firm(firm)), (2 * len(firm.frame.pins), True, False))

    def test_what_is_not_true(self):
        # Firm, and no pin is held; but directions that are all equal do not hold it.
        spots = {"a": (0, 0), "b": (2, 0), "c": (0, 1)}
        self.assertIs(is_firm_stand(EVEN), True)
        for direction in ((1, 0), (0, 1), (3, -5)):
            self.assertEqual(rank_at_place(EVEN, (spots, {pin: (direction,) for pin in "abc"})), 5)
        self.assertEqual(rank_at_place(EVEN, (spots, {"a": ((1, 0),), "b": ((1, 0),), "c": ((0, 1),)})), 6)
        # The ties of this stand can be dealt to the pins, two to each, but it is not even firm.
        self.assertTrue(slow.all_heads(DEALT))
        self.assertEqual((len(DEALT), stand_rank(DEALT), is_just_firm(DEALT)), (8, 7, False))
        self.assertRaises(ArithmeticError, heads, DEALT)

    def test_wrong_stands(self):
        stand = (TRIPOD, InvalidStand, is_stand)
        for call in (stand_rank, is_firm_stand, is_just_firm, spare_ties, stand_parting):
            self.check_arguments(call, [stand])
            call(stand=TRIPOD)
        self.check_arguments(is_stand_parting, [stand, (None, None, never)])

    def test_arguments_stay_and_objects_share_nothing(self):
        many = {"c": 1, "a": 2}
        stand = Stand(frame=THREE, slides=many)
        many["b"] = 2
        self.assertEqual(stand.slides, {"a": 2, "c": 1})
        stand.slides.clear()
        stand.slides["b"] = 7
        self.assertEqual(stand, Stand(THREE, {"a": 2, "c": 1}))
        before = told(stand)
        for call in (stand_rank, is_firm_stand, is_just_firm, spare_ties, stand_parting, str, len, list):
            self.assertEqual(call(stand), call(stand))
        stand.with_tie(("slide", "b", 0))
        stand.without_tie(("slide", "c", 0))
        self.assertEqual(told(stand), before)
        self.assertEqual(stand_rank(Stand(SINGLE, {})), 0)
        self.assertEqual(stand_rank(Stand.held_at(EIGHT, EIGHT.pins)), 16)
        self.assertEqual(len(spare_ties(Stand.held_at(EIGHT, EIGHT.pins))), 44)
