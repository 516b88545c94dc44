"""Small changes: promises 10.1 to 10.5."""

import itertools
import random
from fractions import Fraction
from math import gcd

from lengthstell.errors import InvalidFrame, InvalidOperation, InvalidPlacing, InvalidRod, Refused
from lengthstell.frame.frames import Frame
from lengthstell.place.placings import rank_at
from lengthstell.small import changes as changes_module
from lengthstell.small.changes import answer_pace, change_paper, is_change_paper, mistaken, proportion, shows
from tests import oracles
from tests.examples import (
    EIGHT,
    FOUR,
    KITE,
    LONGEST,
    LOOSE_EIGHT,
    NAMED,
    RING,
    SINGLE,
    THREES,
    TOO_LONG,
    TWIN,
    WHEEL,
    pairs,
    random_frame,
    random_placing,
)
from tests.refusals import WRONG, Refusals, is_frame, never, told

SQUARE = {"a": (0, 0), "b": (1, 0), "c": (0, 1), "d": (1, 1)}
ONLY = {rod: int(rod == ("a", "b")) for rod in KITE}
ONE = {rod: int(rod == ("a", "b")) for rod in FOUR}
HOLD = {rod: -1 if rod in pairs("ad bc") else 1 for rod in FOUR}
MAKING = ("velocities", {"a": (0, 0), "b": (1, 0), "c": (1, 0), "d": (0, 0)}, 1)
WIDEST = 10 ** 140 - 1


def paces(frame, placing, velocities):
    """The rows of the rods times velocities."""
    flat = [number for pin in frame.pins for number in velocities[pin]]
    return [sum(x * y for x, y in zip(row, flat)) for row in oracles.rod_rows(frame, placing)]


def does_make(frame, placing, change, paper):
    word, velocities, scale = paper
    if word != "velocities" or list(velocities) != list(frame.pins) or scale < 1:
        return False
    return paces(frame, placing, velocities) == [scale * change[rod] for rod in frame.rods]


def does_bar(frame, placing, change, paper):
    word, weights = paper
    if word != "balance" or list(weights) != list(frame.rods):
        return False
    barred = sum(weights[rod] * change[rod] for rod in frame.rods) != 0
    return barred and oracles.is_in_balance(frame, placing, weights)


def can_be_made(frame, placing, change):
    rows = oracles.rod_rows(frame, placing)
    wide = [row + [change[rod]] for row, rod in zip(rows, frame.rods)]
    return oracles.rank(wide) == oracles.rank(rows)


def rank_without(frame, placing, *rods):
    return oracles.rank(oracles.rod_rows(oracles.without_rods(frame, rods), placing))


def own_answer(weights, driven, watched):
    found = -Fraction(weights[driven]) / Fraction(weights[watched])
    return found.numerator, found.denominator


class ChangesTest(Refusals):

    def test_constants(self):
        self.assertEqual(changes_module.MAX_DIGITS, 140)

    def test_examples(self):
        found = [change_paper(KITE, SQUARE, ONLY)[0], is_change_paper(KITE, SQUARE, ONLY, MAKING)]
        self.assertEqual(found, ["velocities", True])
        found = [
            change_paper(FOUR, SQUARE, ONE)[0], is_change_paper(FOUR, SQUARE, ONE, ("balance", HOLD)),
            shows(FOUR, SQUARE, ("a", "d")), shows(KITE, SQUARE, ("a", "d")),
        ]
        self.assertEqual(found, ["balance", True, True, False])
        found = [
            proportion(FOUR, SQUARE, ("a", "b"), ("a", "d")), mistaken(FOUR, SQUARE) == (FOUR.rods,),
            mistaken(KITE, SQUARE),
        ]
        self.assertEqual(found, [(1, -1), True, ()])
        found = [
            answer_pace(FOUR, SQUARE, ("a", "b"), ("c", "d")),
            answer_pace(FOUR, SQUARE, driven=("a", "b"), watched=("a", "d")),
        ]
        self.assertEqual(found, [(-1, 1), (1, 1)])
        self.refused(Refused, answer_pace, KITE, SQUARE, ("a", "b"), ("a", "c"), kept=("many", 0))

    def test_random_frames(self):
        rng = random.Random(131)
        words = []
        for at in range(160):
            frame = random_frame(rng, rng.randrange(1, 8)) if at % 4 else rng.choice(NAMED)
            placing = random_placing(rng, frame, rng.choice((1, 2)), rng.choice((1, 2, 9, 10 ** 30)))
            change = {rod: rng.choice((0, 0, rng.randrange(-9, 10))) for rod in frame.rods}
            if rng.random() < 0.4:
                velocities = random_placing(rng, frame, len(placing[frame.pins[0]]), 3)
                change = dict(zip(frame.rods, paces(frame, placing, velocities)))
            words.append(self.check_change(frame, placing, change))
            self.check_rods(rng, frame, placing)
        self.assertGreater(min(words.count("velocities"), words.count("balance")), 30)

    def check_change(self, frame, placing, change):
        paper = change_paper(frame, placing, change)
        self.assertIsInstance(paper, tuple)
        if paper[0] == "velocities":
            self.assertTrue(does_make(frame, placing, change, paper))
            numbers = [number for each in paper[1].values() for number in each] + [paper[2]]
            for weights in oracles.balances(frame, placing):
                self.assertEqual(sum(weights[rod] * change[rod] for rod in frame.rods), 0)
        else:
            self.assertTrue(does_bar(frame, placing, change, paper))
            numbers = list(paper[1].values())
        self.assertIs(paper[0] == "velocities", can_be_made(frame, placing, change))
        self.assertLess(max(abs(number) for number in numbers), TOO_LONG)
        self.assertIs(is_change_paper(frame, placing, change, paper), True)
        return paper[0]

    def check_rods(self, rng, frame, placing):
        some = oracles.balances(frame, placing)
        whole = len(frame.rods) - len(some)
        entries = {rod: [weights[rod] for weights in some] for rod in frame.rods}
        showing = [rod for rod in frame.rods if any(entries[rod])]
        for rod in frame.rods:
            self.assertIs(shows(frame, placing, rod), rod in showing)
        for rod in rng.sample(frame.rods, min(3, len(frame.rods))):
            alone = {other: int(other == rod) for other in frame.rods}
            self.assertIs(change_paper(frame, placing, alone)[0] == "balance", rod in showing)
            self.assertIs(rank_without(frame, placing, rod) == whole, rod in showing)
        lots = {rod: {rod} for rod in showing}
        for one, other in itertools.permutations(frame.rods, 2):
            if oracles.rank([entries[one], entries[other]]) == 1 and one in showing and other in showing:
                lots[one].add(other)
        for one, other in rng.sample(list(itertools.permutations(frame.rods, 2)), min(6, len(frame.rods) // 2)):
            found = proportion(frame, placing, one, other)
            if one not in showing or other not in lots[one]:
                self.assertIsNone(found)
                continue
            p, q = found
            self.assertTrue(isinstance(found, tuple) and p >= 1 and q != 0 and gcd(p, q) == 1)
            self.assertTrue(all(q * weights[one] == p * weights[other] for weights in some))
            self.assertLess(rank_without(frame, placing, one, other), whole)
        wanted = {tuple(sorted(lot)) for lot in lots.values() if len(lot) > 1}
        self.assertEqual(mistaken(frame, placing), tuple(sorted(wanted)))
        self.check_answers(rng, frame, placing, whole)

    def check_answers(self, rng, frame, placing, whole):
        if len(frame.rods) < 2:
            return
        driven, watched = rng.sample(frame.rods, 2)
        many = len(frame.rods) - whole
        if many != 1:
            self.refused(Refused, answer_pace, frame, placing, driven, watched, kept=("many", many))
            return
        weights = oracles.balances(frame, placing)[0]
        for driven, watched in itertools.permutations(frame.rods, 2):
            if weights[watched] == 0:
                self.refused(Refused, answer_pace, frame, placing, driven, watched, kept=("weight", watched))
            else:
                found = answer_pace(frame, placing, driven, watched)
                self.assertEqual(found, own_answer(weights, driven, watched))
                self.assertIsInstance(found, tuple)
                made = {rod: 0 for rod in frame.rods} | {driven: found[1], watched: found[0]}
                self.assertTrue(can_be_made(frame, placing, made))
                made[watched] += 1
                self.assertFalse(can_be_made(frame, placing, made))

    def test_answers_of_three_rods(self):
        rng = random.Random(132)
        for frame in (FOUR, WHEEL, TWIN.without_rod("a", "b")):
            placing = random_placing(rng, frame, 2, 40)
            self.assertEqual(len(frame.rods) - rank_at(frame, placing), 1)
            for e, f, g in itertools.permutations(frame.rods[:5], 3):
                to_g, to_f, f_to_g = [Fraction(*answer_pace(frame, placing, *two)) for two in ((e, g), (e, f), (f, g))]
                self.assertEqual(to_g, -to_f * f_to_g)
            self.assertEqual(mistaken(frame, placing), (frame.rods,))

    def test_frames_without_rods(self):
        for frame in (SINGLE, LOOSE_EIGHT):
            for space in (1, 2):
                placing = {pin: (7,) * space for pin in frame.pins}
                self.assertEqual(self.check_change(frame, placing, {}), "velocities")
                self.assertEqual(mistaken(frame, placing), ())
                self.assertIs(is_change_paper(frame, placing, {}, ("balance", {})), False)
                making = {pin: (at,) * space for at, pin in enumerate(frame.pins)}
                self.assertIs(is_change_paper(frame, placing, {}, ("velocities", making, 5)), True)

    def test_rods_that_do_not_show(self):
        frame = FOUR.with_pin("e", "a", "b")
        placing = {**SQUARE, "e": (4, 7)}
        self.assertEqual([shows(frame, placing, rod) for rod in pairs("ab cd ae be")], [True, True, False, False])
        self.assertIsNone(proportion(frame, placing, ("a", "e"), ("b", "e")))
        self.assertIsNone(proportion(frame, placing, ("a", "b"), ("b", "e")))
        self.assertEqual(mistaken(frame, placing), (FOUR.rods,))
        self.assertEqual(answer_pace(frame, placing, ("a", "e"), ("a", "b")), (0, 1))
        self.refused(Refused, answer_pace, frame, placing, ("a", "b"), ("a", "e"), kept=("weight", ("a", "e")))
        # A circuit with a rod that does not show, a needed rod that does, and a spare one that does not.
        flat = {"a": (0, 0), "b": (1, 0), "c": (2, 0), "d": (0, 1)}
        self.assertEqual([rod for rod in FOUR.rods if shows(FOUR, flat, rod)], list(pairs("ab ac bc")))
        self.assertEqual([rod for rod in KITE.rods if shows(KITE, flat, rod)], list(pairs("ab ac bc")))
        self.assertEqual(mistaken(FOUR, flat), (pairs("ab ac bc"),))
        self.assertEqual(proportion(FOUR, flat, ("a", "b"), ("a", "c")), (2, -1))
        self.assertEqual(proportion(FOUR, flat, ("a", "c"), ("a", "b")), (1, -2))

    def test_several_lots(self):
        rng = random.Random(133)
        frame = FOUR | Frame.full(("d", "e", "f", "g"))
        placing = random_placing(rng, frame, 2, 30)
        first, second = FOUR.rods, Frame.full(("d", "e", "f", "g")).rods
        self.assertEqual(mistaken(frame, placing), (first, second))
        self.assertIsNone(proportion(frame, placing, first[0], second[0]))
        self.refused(Refused, answer_pace, frame, placing, first[0], second[0], kept=("many", 2))
        # On the line the rods of a ring go with their lengths.
        ring = {"a": (0,), "b": (2,), "c": (7,), "d": (3,)}
        self.assertEqual(proportion(RING, ring, ("a", "b"), ("b", "c")), (5, 2))
        self.assertEqual(proportion(RING, ring, ("a", "b"), ("c", "d")), (2, -1))
        self.assertEqual(answer_pace(RING, ring, ("a", "b"), ("c", "d")), (2, 1))
        self.assertEqual(answer_pace(RING, ring, ("c", "d"), ("a", "b")), (1, 2))

    def test_digits(self):
        for number in (WIDEST, -WIDEST):
            wide = {**SQUARE, "a": (number, 2)}
            self.assertIs(shows(FOUR, wide, ("a", "b")), True)
            self.check_change(FOUR, wide, {rod: number for rod in FOUR})
        for number in (WIDEST + 1, -WIDEST - 1, TOO_LONG):
            wide = {**SQUARE, "c": (0, number)}
            self.refused(InvalidPlacing, change_paper, FOUR, wide, ONE)
            self.refused(InvalidPlacing, is_change_paper, FOUR, wide, ONE, None)
            self.refused(InvalidPlacing, shows, FOUR, wide, ("a", "b"))
            self.refused(InvalidPlacing, proportion, FOUR, wide, ("a", "b"), ("a", "c"))
            self.refused(InvalidPlacing, mistaken, FOUR, wide)
            self.refused(InvalidPlacing, answer_pace, FOUR, wide, ("a", "b"), ("a", "c"))
            self.refused(InvalidOperation, change_paper, FOUR, SQUARE, {**ONE, ("c", "d"): number})
            self.refused(InvalidOperation, is_change_paper, FOUR, SQUARE, {**ONE, ("c", "d"): number}, None)

    def test_longest_answers(self):
        rng = random.Random(134)
        placing = {pin: (rng.choice((-1, 1)) * rng.randrange(WIDEST), rng.choice((-1, 1)) * rng.randrange(WIDEST))
                   for pin in EIGHT.pins}
        for frame, word in ((EIGHT, "balance"), (THREES, "velocities"), (TWIN, "balance")):
            spots = {pin: placing[pin] for pin in frame.pins}
            change = {rod: rng.choice((-1, 1)) * rng.randrange(WIDEST) for rod in frame.rods}
            paper = change_paper(frame, spots, change)
            self.assertEqual(paper[0], word)
            numbers = paper[1].values() if word == "balance" else [x for each in paper[1].values() for x in each]
            self.assertLess(max(abs(number) for number in numbers), TOO_LONG)
            self.assertIs(is_change_paper(frame, spots, change, paper), True)
        sparse = Frame(EIGHT.pins, tuple(rod for rod in EIGHT if rod[0] in "ab"))
        change = {rod: rng.choice((-1, 1)) * rng.randrange(WIDEST) for rod in sparse.rods}
        paper = change_paper(sparse, placing, change)
        self.assertTrue(does_make(sparse, placing, change, paper))
        self.assertLess(max(abs(x) for each in paper[1].values() for x in each), TOO_LONG)

    def test_papers_of_others(self):
        rng = random.Random(135)
        for _ in range(40):
            frame = rng.choice((FOUR, KITE, WHEEL, RING, THREES))
            placing = random_placing(rng, frame, 2, 4)
            velocities = random_placing(rng, frame, 2, 9)
            by = rng.randrange(1, 5)
            change = dict(zip(frame.rods, paces(frame, placing, velocities)))
            more = {pin: tuple(by * x + shift for x, shift in zip(velocities[pin], (3, -8))) for pin in frame.pins}
            self.assertIs(is_change_paper(frame, placing, change, ("velocities", more, by)), True)
            whole = any(change.values())
            self.assertIs(is_change_paper(frame, placing, change, ("velocities", more, by + 1)), not whole)
        heavy = {rod: LONGEST * weight for rod, weight in reversed(list(HOLD.items()))}
        self.assertIs(is_change_paper(FOUR, SQUARE, ONE, ("balance", heavy)), True)

    def test_papers_that_are_wrong_in_one_place(self):
        word, velocities, scale = MAKING
        wrong = [
            list(MAKING), MAKING[:2], MAKING + (1,), ("velocity",) + MAKING[1:], (word, velocities, True),
            (word, velocities, 0), (word, velocities, -1), (word, velocities, 2), (word, velocities, None),
            (word, velocities, "1"), (word, velocities, TOO_LONG), (word, list(velocities.items()), 1),
            (word, {pin: velocities[pin] for pin in "abc"}, 1), (word, {**velocities, "e": (0, 0)}, 1), (word, 1, velocities),
            ("balance", velocities), ("balance", velocities, 1), (velocities, 1), (True, velocities, 1), (), None, (word,),
        ]
        wrong += [(word, {**velocities, "b": bad}, 1) for bad in
                  ((1, 1), [1, 0], (1,), (1, 0, 0), (True, 0), (1, False), (1, None), None, "10", 1, (TOO_LONG, 0))]
        for value in wrong:
            self.assertIs(is_change_paper(KITE, SQUARE, ONLY, value), False)
        self.assertEqual(scale, 1)
        bad = [
            ["balance", HOLD], ("balance", HOLD, 1), ("Balance", HOLD), ("balance",), ("balance", list(HOLD.items())),
            ("balance", {rod: 0 for rod in FOUR}), ("balance", {rod: HOLD[rod] for rod in KITE}), ("velocities", HOLD),
            ("balance", {**HOLD, ("a", "e"): 0}), ("balance", {**HOLD, ("a", "b"): 2}), ("velocities", HOLD, 1),
            ("balance", {**HOLD, ("a", "b"): True}), ("balance", {**HOLD, ("a", "b"): "1"}), ("balance", None),
            ("balance", {rod: TOO_LONG * weight for rod, weight in HOLD.items()}),
        ]
        for value in bad:
            self.assertIs(is_change_paper(FOUR, SQUARE, ONE, value), False)
        # Weights in balance that do not bar this change.
        none = {rod: 0 for rod in FOUR}
        self.assertIs(is_change_paper(FOUR, SQUARE, none, ("balance", HOLD)), False)
        self.assertIs(is_change_paper(FOUR, SQUARE, none, ("velocities", {pin: (1, 1) for pin in "abcd"}, 3)), True)
        for scale in (0, -1, -3, True, None):
            value = ("velocities", {pin: (1, 1) for pin in "abcd"}, scale)
            self.assertIs(is_change_paper(FOUR, SQUARE, none, value), False)
        for value in WRONG:
            self.assertIs(is_change_paper(FOUR, SQUARE, ONE, value), False)

    def test_wrong_changes(self):
        wrong = (
            {}, {rod: 0 for rod in KITE}, {**ONE, ("a", "e"): 0}, {**ONE, ("a", "b"): True}, {**ONE, ("a", "b"): None},
            list(ONE.items()), None, {**ONE, ("a", "b"): "1"}, {**ONE, ("a", "b"): (1,)},
            {tuple(reversed(rod)): 0 for rod in FOUR}, {rod: 0 for rod in pairs("ab ac ad bc bd ce")},
        )
        for change in wrong:
            self.refused(InvalidOperation, change_paper, FOUR, SQUARE, change)
            self.refused(InvalidOperation, is_change_paper, FOUR, SQUARE, change, MAKING)

    def test_wrong_arguments(self):
        frame = (FOUR, InvalidFrame, is_frame)
        def is_square(value):
            return isinstance(value, dict) and sorted(map(str, value)) == list("abcd")
        placing = (SQUARE, InvalidPlacing, is_square)
        first = (("a", "b"), InvalidRod, lambda value: isinstance(value, tuple) and value in FOUR.rods)
        second = (("c", "d"), InvalidRod, lambda value: isinstance(value, tuple) and value in FOUR.rods)
        self.check_arguments(change_paper, [frame, placing, (ONE, InvalidOperation, never)])
        self.check_arguments(is_change_paper, [frame, placing, (ONE, InvalidOperation, never), (None, None, never)])
        self.check_arguments(shows, [frame, placing, first])
        self.check_arguments(mistaken, [frame, placing])
        for call in (proportion, answer_pace):
            self.check_arguments(call, [frame, placing, first, second])
            self.refused(InvalidRod, call, FOUR, SQUARE, ("a", "b"), ("a", "b"))
            self.refused(InvalidRod, call, FOUR, SQUARE, ("b", "a"), ("a", "b"))
            self.refused(InvalidRod, call, KITE, SQUARE, ("a", "b"), ("c", "d"))
            self.refused(InvalidPlacing, call, FOUR, {**SQUARE, "e": (0, 0)}, None, None)
        self.refused(InvalidRod, shows, KITE, SQUARE, ("c", "d"))
        self.refused(InvalidPlacing, shows, FOUR, {**SQUARE, "a": (0,)}, ("a", "b"))
        self.refused(InvalidPlacing, mistaken, FOUR, {**SQUARE, "a": (True, 0)})

    def test_arguments_stay_and_answers_repeat(self):
        placing, change = dict(reversed(list(SQUARE.items()))), dict(reversed(list(ONE.items())))
        before = told((placing, change))
        paper = change_paper(frame=FOUR, placing=placing, change=change)
        shown = told(paper)
        self.assertIs(is_change_paper(frame=FOUR, placing=placing, change=change, value=paper), True)
        paper[1].clear()
        self.assertEqual(told(change_paper(FOUR, SQUARE, ONE)), shown)
        self.assertIs(shows(frame=FOUR, placing=placing, rod=("a", "b")), True)
        self.assertEqual(proportion(frame=FOUR, placing=placing, one=("a", "b"), other=("a", "d")), (1, -1))
        self.assertEqual(mistaken(frame=FOUR, placing=placing), (FOUR.rods,))
        self.assertEqual(answer_pace(frame=FOUR, placing=placing, driven=("a", "b"), watched=("c", "d")), (-1, 1))
        self.assertEqual(told((placing, change)), before)
