"""Joined papers: promises 9.5 and 9.6."""

import random
from fractions import Fraction
from math import lcm

from lengthstell.errors import InvalidFrame, InvalidOperation, Refused, TooMany
from lengthstell.frame.frames import Frame
from lengthstell.join.papers import joined_paper
from lengthstell.told.told import is_told, is_told_paper, told_paper
from tests import oracles
from tests.examples import EIGHT, FOUR, KITE, TWIN, WHEEL, random_told_frame
from tests.refusals import Refusals, is_frame, never, told

FIRST = (
    "told", {"a": (0, 0), "b": (3, 0), "c": (0, 3), "d": (1, 1)},
    {("a", "b"): -1, ("a", "c"): -1, ("a", "d"): 3, ("b", "c"): -1, ("b", "d"): 3, ("c", "d"): 3},
)
SECOND = (
    "told", {"b": (0, 0), "c": (1, 0), "d": (0, 1), "e": (1, 1)},
    {("b", "c"): 1, ("b", "d"): 1, ("b", "e"): -1, ("c", "d"): -1, ("c", "e"): 1, ("d", "e"): 1},
)
OTHER = Frame.full(("b", "c", "d", "e"))
# Three pins on a line, and a fourth one beside it.
FLAT = (
    "told", {"a": (0, 0), "b": (1, 0), "c": (2, 0), "d": (0, 1)},
    {("a", "b"): 2, ("a", "c"): -1, ("a", "d"): 0, ("b", "c"): 2, ("b", "d"): 0, ("c", "d"): 0},
)


def own_join(one, first, other, second):
    """The joined placing and weights, with fractions: the affine map is solved for."""
    common = [pin for pin in one.pins if pin in other.pins]
    asked = [[*second[1][pin], 1] for pin in common]
    led = {}
    for pin in other.pins:
        if pin not in one.pins:
            spot = []
            for place in (0, 1):
                rows = [row + [first[1][each][place]] for row, each in zip(asked, common)]
                done, _ = oracles.echelon(rows)
                spot.append(sum(by * x for by, x in zip([row[3] for row in done], [*second[1][pin], 1])))
            led[pin] = spot
    scale = lcm(*[x.denominator for spot in led.values() for x in spot])
    placing = {pin: [Fraction(x) for x in first[1][pin]] for pin in one.pins} | led
    placing = {pin: tuple(int(scale * x) for x in placing[pin]) for pin in sorted(placing)}
    rods = sorted(set(one.rods) | set(other.rods))
    return placing, {rod: first[2].get(rod, 0) + second[2].get(rod, 0) for rod in rods}


def scaled(paper, by):
    """The paper with all its integers multiplied."""
    return ("told", {pin: (by * x, by * y) for pin, (x, y) in paper[1].items()},
            {rod: by * weight for rod, weight in paper[2].items()})


class JoinedTest(Refusals):

    def test_example(self):
        joined = joined_paper(FOUR, FIRST, OTHER, SECOND)
        found = [joined[1]["d"], joined[1]["e"], joined[2][("b", "c")], joined[2][("b", "d")], joined[2][("c", "d")],
                 len(joined[2])]
        self.assertEqual(found, [(1, 1), (-2, 4), 0, 4, 2, 9])
        self.check_join(FOUR, FIRST, OTHER, SECOND)

    def check_join(self, one, first, other, second):
        joined = joined_paper(one, first, other, second)
        self.assertIsInstance(joined, tuple)
        word, placing, weights = joined
        self.assertEqual(word, "told")
        self.assertEqual((placing, weights), own_join(one, first, other, second))
        whole = one | other
        self.assertEqual((list(placing), list(weights)), (list(whole.pins), list(whole.rods)))
        self.assertTrue(oracles.shows_told(whole, placing, weights, 2))
        self.assertIs(is_told_paper(whole, joined), True)
        self.assertIs(is_told(whole), True)

    def test_random_papers(self):
        rng = random.Random(121)
        made = 0
        while made < 60:
            one, other = random_told_frame(rng, rng.randrange(4, 7)), random_told_frame(rng, rng.randrange(4, 6))
            other = other.renamed(dict(zip(other.pins, rng.sample("abcdefghij", len(other.pins)))))
            common = tuple(pin for pin in one.pins if pin in other.pins)
            first, second = told_paper(one), told_paper(other)
            if len(common) != 3:
                self.refused(Refused, joined_paper, one, first, other, second, kept=("common", common))
            elif len(set(one.pins + other.pins)) > 8:
                self.refused(TooMany, joined_paper, one, first, other, second, kept=8)
            elif any(oracles.turn(*[paper[1][pin] for pin in common]) == 0 for paper in (first, second)):
                self.refused(Refused, joined_paper, one, first, other, second, kept=("line",))
            else:
                self.check_join(one, first, other, second)
                made += 1

    def test_triangles(self):
        three = Frame.full(("b", "c", "d"))
        flat = ("told", {"b": (5, 5), "c": (7, 9), "d": (-1, 0)}, {rod: 0 for rod in three})
        self.check_join(FOUR, FIRST, three, flat)
        self.check_join(three, flat, FOUR, FIRST)
        self.check_join(three, flat, three, flat)
        self.assertEqual(joined_paper(FOUR, FIRST, three, flat), FIRST)

    def test_the_least_scale(self):
        spots = {"b": (0, 0), "c": (3, 0), "d": (0, 2), "e": (3, 2)}
        second = ("told", spots, SECOND[2])
        self.assertIs(is_told_paper(OTHER, second), True)
        self.assertEqual(joined_paper(FOUR, FIRST, OTHER, second)[1], joined_paper(FOUR, FIRST, OTHER, SECOND)[1])
        # Common pins a, b, c and the fourth pin d at a third of their sum, but here mirrored.
        turned = ("told", {"x": (0, 0), "b": (3, 0), "c": (0, 3), "d": (1, 1)},
                  {tuple(sorted(pin.replace("a", "x") for pin in rod)): by for rod, by in FIRST[2].items()})
        square = ("told", {"a": (0, 0), "b": (1, 0), "c": (0, 1), "x": (1, 1)}, {
            ("a", "b"): 1, ("a", "c"): 1, ("a", "x"): -1, ("b", "c"): -1, ("b", "x"): 1, ("c", "x"): 1})
        one, other = Frame.full(("a", "b", "c", "x")), Frame.full(("b", "c", "d", "x"))
        self.check_join(one, square, other, turned)
        self.assertEqual(joined_paper(one, square, other, turned)[1]["a"], (0, 0))
        self.assertEqual(joined_paper(one, square, other, turned)[1]["d"], (2, 2))

    def test_eight_pins_and_nine(self):
        rng = random.Random(122)
        six = random_told_frame(rng, 6)
        while len(six.pins) > 6:
            six = random_told_frame(rng, 6)
        six = six.renamed(dict(zip(six.pins, "abcdef")))
        five = WHEEL.renamed({"a": "a", "b": "b", "c": "c", "d": "g", "e": "h"})
        self.check_join(six, told_paper(six), five, told_paper(five))
        long = six.renamed(dict(zip("abcdef", "abcxyz")))
        self.refused(TooMany, joined_paper, six, told_paper(six), long, told_paper(long), kept=8)

    def test_common_pins_on_a_line(self):
        self.assertIs(is_told_paper(FOUR, FLAT), True)
        side = Frame.full(("a", "b", "c", "e"))
        paper = told_paper(side)
        self.refused(Refused, joined_paper, FOUR, FLAT, side, paper, kept=("line",))
        self.refused(Refused, joined_paper, side, paper, FOUR, FLAT, kept=("line",))
        wide = scaled(FLAT, 10 ** 600)
        self.refused(Refused, joined_paper, FOUR, wide, side, paper, kept=("line",))
        # The pins b, c and d are on no line there.
        self.check_join(FOUR, FLAT, OTHER, SECOND)

    def test_six_hundred_digits(self):
        by = 10 ** 599
        first, second = scaled(FIRST, by), scaled(SECOND, by)
        self.check_join(FOUR, first, OTHER, second)
        far = scaled(SECOND, -10 * by)[1]
        self.refused(TooMany, joined_paper, FOUR, FIRST, OTHER, ("told", far, SECOND[2]), kept=600)
        self.refused(TooMany, joined_paper, FOUR, scaled(FIRST, 10 * by), OTHER, SECOND, kept=600)
        heavy = ("told", FIRST[1], {rod: 10 ** 600 * weight for rod, weight in FIRST[2].items()})
        self.refused(TooMany, joined_paper, FOUR, heavy, OTHER, SECOND, kept=600)

    def test_long_answers(self):
        rng = random.Random(124)
        # A skew of the second placing, with integers of just less than 600 digits.
        some = [rng.randrange(10 ** 597, 10 ** 598) for _ in range(6)]
        spots = {pin: (some[0] * x + some[1] * y + some[2], some[3] * x + some[4] * y + some[5])
                 for pin, (x, y) in told_paper(OTHER)[1].items()}
        second = ("told", spots, told_paper(OTHER)[2])
        some = [rng.randrange(10 ** 597, 10 ** 598) for _ in range(6)]
        spots = {pin: (some[0] * x - some[1] * y + some[2], some[3] * x + some[4] * y - some[5])
                 for pin, (x, y) in FIRST[1].items()}
        first = ("told", spots, FIRST[2])
        self.check_join(FOUR, first, OTHER, second)

    def test_papers_that_are_wrong_in_one_place(self):
        wrong = (
            list(FIRST), FIRST[:2], FIRST + ((),), ("Told",) + FIRST[1:], ("told", FIRST[2], FIRST[1]), SECOND,
            ("told", {**FIRST[1], "a": (0, 1)}, FIRST[2]), ("told", {**FIRST[1], "a": (False, 0)}, FIRST[2]),
            ("told", FIRST[1], {**FIRST[2], ("a", "b"): 1}), ("told", FIRST[1], {**FIRST[2], ("a", "b"): True}),
            ("told", {pin: (0,) for pin in "abcd"}, FIRST[2]), ("told", FIRST[1], {rod: 0 for rod in FOUR}), None, (),
        )
        for value in wrong:
            self.refused(InvalidOperation, joined_paper, FOUR, value, OTHER, SECOND)
            self.refused(InvalidOperation, joined_paper, OTHER, SECOND, FOUR, value)
        for frame in (KITE, TWIN):
            self.assertIs(is_told_paper(frame, told_paper(frame)), True)
            self.refused(InvalidOperation, joined_paper, frame, told_paper(frame), OTHER, SECOND)
            self.refused(InvalidOperation, joined_paper, OTHER, SECOND, frame, told_paper(frame))

    def test_wrong_arguments(self):
        self.check_arguments(joined_paper, [
            (FOUR, InvalidFrame, is_frame), (FIRST, InvalidOperation, never), (OTHER, InvalidFrame, is_frame),
            (SECOND, InvalidOperation, never)])
        self.refused(InvalidOperation, joined_paper, FOUR, None, None, None)
        self.refused(Refused, joined_paper, FOUR, FIRST, FOUR, FIRST, kept=("common", FOUR.pins))
        apart = Frame.full(("w", "x", "y", "z"))
        self.refused(Refused, joined_paper, FOUR, FIRST, apart, told_paper(apart), kept=("common", ()))
        two = Frame.full(("a", "b", "x", "y"))
        self.refused(Refused, joined_paper, FOUR, FIRST, two, told_paper(two), kept=("common", ("a", "b")))
        # The common pins are asked before the number of pins is, and that before the line.
        self.assertEqual(len(EIGHT.pins), 8)
        far = Frame.full(("a", "b", "c", "v", "w", "x", "y"))
        self.refused(TooMany, joined_paper, FOUR.with_pin("z", "a", "b", "c"),
                     told_paper(FOUR.with_pin("z", "a", "b", "c")), far, told_paper(far), kept=8)

    def test_arguments_stay_and_answers_repeat(self):
        before = told((FIRST, SECOND))
        joined = joined_paper(one=FOUR, first=FIRST, other=OTHER, second=SECOND)
        shown = told(joined)
        joined[1].clear()
        joined[2].clear()
        self.assertEqual(told(joined_paper(FOUR, FIRST, OTHER, SECOND)), shown)
        self.assertEqual(told((FIRST, SECOND)), before)
