"""Told frames and their papers: promises 0.15, 0.16, 0.20 and 6.5 to 6.7."""

import itertools
import random

from lengthstell.errors import InvalidFrame, InvalidNumber, TooMany
from lengthstell.frame.frames import Frame
from lengthstell.place.placings import are_alike, mirrored, squares
from lengthstell.told.told import is_told, is_told_paper, told_paper
from tests import oracles
from tests.examples import (
    BOW,
    EIGHT,
    FOUR,
    JOINED,
    KITE,
    LONG,
    LONGEST,
    LOOSE_EIGHT,
    NAMED,
    RING,
    SEVEN,
    SINGLE,
    THREES,
    TOO_LONG,
    TWIN,
    WHEEL,
    all_frames,
    pairs,
    random_frame,
    random_told_frame,
    renamed_at_random,
    shapes,
)
from tests.refusals import WRONG, Refusals, is_frame, is_space_number, never
from tests.refusals import told as shown_as

SPACE = {"space": (2, InvalidNumber, is_space_number)}
SPOTS = {"a": (0, 0), "b": (2, 2), "c": (6, 0), "d": (3, -3), "e": (0, 6)}
WEIGHTS = dict(zip(WHEEL, (3, -3, 4, 1, 3, 3, 2, -2)))
PAPER = ("told", SPOTS, WEIGHTS)
SINGLES = tuple((rod,) for rod in pairs("ac ad bc bd"))


class ToldTest(Refusals):

    def test_examples(self):
        turned = {rod: 0 - WEIGHTS[rod] for rod in WHEEL}
        self.assertEqual([is_told_paper(WHEEL, PAPER), is_told_paper(WHEEL, ("told", SPOTS, turned))], [True, False])
        found = ([is_told(frame) for frame in (FOUR, KITE, WHEEL, TWIN, THREES)], is_told(KITE, space=1))
        self.assertEqual(found, ([True, False, True, False, False], True))
        self.assertEqual(told_paper(Frame(("a", "b"))), ("loose", ()))
        found = [
            is_told_paper(KITE, ("cut", ("a", "b"), ("d",))),
            is_told_paper(KITE, ("needed", ("a", "b"), tuple([(rod,) for rod in pairs("ac ad bc bd")]))),
        ]
        self.assertEqual(found, [True, True])

    def test_all_frames_of_few_pins(self):
        for pins in ("a", "ab", "abc", "abcd", "abcde"):
            for frame in all_frames(pins):
                self.check_frame(frame, 1)
                self.check_frame(frame, 2)

    def test_frames_of_six_pins_and_more(self):
        rng = random.Random(81)
        frames = [renamed_at_random(rng, frame) for frame in shapes("abcdef")]
        self.assertEqual(len(frames), 156)
        frames += [random_frame(rng, 7) for _ in range(15)]
        frames += [frame for frame in NAMED if len(frame.pins) <= 7] + [SEVEN]
        for frame in frames:
            self.check_frame(frame, 1)
            self.check_frame(frame, 2)

    def test_frames_made_by_steps_and_without_one_rod(self):
        rng = random.Random(82)
        for _ in range(25):
            frame = random_told_frame(rng, rng.randrange(5, 8))
            self.assertIs(is_told(frame), True)
            self.check_frame(frame, 2)
            self.check_frame(frame.without_rod(*rng.choice(frame.rods)), 2)

    def check_frame(self, frame, space):
        told = is_told(frame, space=space)
        self.assertIs(told, oracles.is_told(frame, space))
        paper = told_paper(frame, space=space)
        self.assertIsInstance(paper, tuple)
        self.assertIs(paper[0] == "told", told)
        if told:
            _, placing, weights = paper
            self.assertTrue(oracles.shows_told(frame, placing, weights, space))
            numbers = [number for spot in placing.values() for number in spot] + list(weights.values())
            self.assertLess(max([abs(number) for number in numbers], default=0), 10 ** 600)
        else:
            self.assertTrue(oracles.shows_not_told(frame, paper, space), paper)
        self.assertIs(is_told_paper(frame, paper, space=space), True)
        self.check_other_papers(frame, told, space)

    def check_other_papers(self, frame, told, space):
        """All papers of the form cut, and the coarsest and finest partings, are judged rightly."""
        every = itertools.combinations(frame.pins, space)
        for lot in list(every)[:6]:
            rest = [pin for pin in frame.pins if pin not in lot]
            for side in (rest[:1], rest[1:], rest[:2], rest):
                value = ("cut", lot, tuple(side))
                answer = is_told_paper(frame, value, space=space)
                self.assertIs(answer, oracles.shows_not_told(frame, value, space))
                self.assertFalse(answer and told)
        for rods in [frame.rods] + [frame.rods[:at] + frame.rods[at + 1:] for at in range(len(frame.rods))][:3]:
            for lots in (tuple((rod,) for rod in rods), (rods,) if rods else ()):
                gone = [rod for rod in frame.rods if rod not in rods]
                value = ("needed", gone[0], lots) if gone else ("loose", lots)
                answer = is_told_paper(frame, value, space=space)
                self.assertIs(answer, oracles.shows_not_told(frame, value, space))
                self.assertFalse(answer and told)

    def test_on_the_line_no_pin_cuts(self):
        rng = random.Random(83)
        for _ in range(60):
            frame = random_frame(rng, rng.randrange(3, 8))
            paper = told_paper(frame, space=1)
            self.assertIs(paper[0] == "told", not oracles.is_cut(frame, 1))
            if paper[0] != "told":
                cutting = [lot for lot in itertools.combinations(frame.pins, 1) if len(oracles.pieces(frame, lot)) > 1]
                value = ("cut", cutting[0], oracles.pieces(frame, cutting[0])[0])
                self.assertIs(is_told_paper(frame, value, space=1), True)

    def test_at_most_space_and_one_pins(self):
        for space in (1, 2):
            for pins in ("a", "ab", "abc")[:space + 1]:
                for frame in all_frames(pins):
                    self.assertIs(is_told(frame, space=space), frame.is_full)
                    paper = told_paper(frame, space=space)
                    self.assertEqual(paper[0], "told" if frame.is_full else "loose")
                    self.assertIs(is_told_paper(frame, paper, space=space), True)
        two = Frame(("a", "b"), pairs("ab"))
        self.assertIs(is_told_paper(two, ("told", {"a": (0, 0), "b": (0, 1)}, {("a", "b"): 0})), True)
        self.assertIs(is_told_paper(two, ("told", {"a": (0, 0), "b": (0, 1)}, {("a", "b"): 1})), False)
        self.assertIs(is_told_paper(two, ("told", {"a": (0, 0), "b": (0, 0)}, {("a", "b"): 0})), False)
        self.assertIs(is_told_paper(SINGLE, ("told", {"a": (5, -5)}, {})), True)
        self.assertIs(is_told_paper(SINGLE, ("told", {"a": (5,)}, {}), space=1), True)
        self.assertIs(is_told_paper(SINGLE, ("loose", ())), False)
        # The forms cut and needed are for more pins alone.
        three = Frame(("a", "b", "c"), pairs("ab ac"))
        self.assertIs(is_told_paper(three, ("loose", (pairs("ab"), pairs("ac")))), True)
        self.assertIs(is_told_paper(three, ("loose", (pairs("ab ac"),))), False)
        self.assertIs(is_told_paper(three, ("needed", ("a", "b"), (pairs("ac"),))), False)
        self.assertIs(is_told_paper(three, ("cut", ("a", "b"), ("c",))), False)
        self.assertIs(is_told_paper(three, ("cut", ("a",), ("b",)), space=1), True)
        loose = Frame(("a", "b"))
        self.assertIs(is_told_paper(loose, ("cut", ("a",), ("b",)), space=1), False)
        self.assertIs(is_told_paper(loose, ("loose", ()), space=1), True)

    def test_seven_pins_and_eight(self):
        self.assertIs(is_told(SEVEN), True)
        self.check_frame(SEVEN, 2)
        for frame in (EIGHT, LOOSE_EIGHT):
            for space in (1, 2):
                self.refused(TooMany, told_paper, frame, space=space, kept=7)
                self.assertIs(is_told(frame, space=space), frame is EIGHT)
        self.refused(InvalidNumber, told_paper, EIGHT, space=3, kept=3)
        for value in (("loose", ()), ("cut", ("a", "b"), ("c",)), ("cut", ("g", "h"), ("a", "c", "e"))):
            self.assertIs(is_told_paper(LOOSE_EIGHT, value), True)
        # A frame of eight pins with a paper by another's hand.
        line = Frame(tuple("abcdefgh"), tuple(zip("abcdefg", "bcdefgh")) + (("a", "h"),))
        placing = {pin: (at,) for at, pin in enumerate("abcdefgh")}
        weights = {rod: 7 for rod in line.rods}
        weights[("a", "h")] = -1
        self.assertIs(is_told_paper(line, ("told", placing, weights), space=1), True)
        self.assertIs(is_told_paper(line, ("told", placing, {rod: -by for rod, by in weights.items()}), space=1), False)
        self.assertIs(is_told(line, space=1), True)
        self.assertIs(is_told(line), False)

    def test_papers_of_others(self):
        rng = random.Random(84)
        for frame in (WHEEL, FOUR, RING, SEVEN, Frame.full(tuple("abcdef"))):
            for space in (1, 2):
                if not is_told(frame, space=space):
                    continue
                _, placing, weights = told_paper(frame, space=space)
                by, off = rng.randrange(2, 9), [rng.randrange(-9, 10) for _ in range(space)]
                moved = {pin: tuple(by * x + y for x, y in zip(placing[pin], off)) for pin in reversed(frame.pins)}
                heavy = {rod: 3 * weights[rod] for rod in reversed(frame.rods)}
                self.assertIs(is_told_paper(frame, ("told", moved, heavy), space=space), True)
                for rod in frame.rods:
                    bad = {**heavy, rod: heavy[rod] + 1}
                    self.assertIs(is_told_paper(frame, ("told", moved, bad), space=space), False)
                for pin in frame.pins:
                    bad = {**moved, pin: tuple(x + 1 for x in moved[pin])}
                    value = ("told", bad, heavy)
                    right = oracles.shows_told(frame, dict(sorted(bad.items())), dict(sorted(heavy.items())), space)
                    self.assertIs(is_told_paper(frame, value, space=space), right)

    def test_long_papers(self):
        scaled = {pin: (x * 10 ** 1990, y * 10 ** 1990) for pin, (x, y) in SPOTS.items()}
        heavy = {rod: weight * LONG for rod, weight in WEIGHTS.items()}
        self.assertIs(is_told_paper(WHEEL, ("told", scaled, heavy)), True)
        self.assertIs(is_told_paper(WHEEL, ("told", {**scaled, "a": (LONGEST, 0)}, heavy)), False)
        self.assertIs(is_told_paper(WHEEL, ("told", scaled, {rod: 10 * by for rod, by in heavy.items()})), False)
        long = {pin: (x * TOO_LONG, y * TOO_LONG) for pin, (x, y) in SPOTS.items()}
        self.assertIs(is_told_paper(WHEEL, ("told", long, WEIGHTS)), False)

    def test_firm_balanced_squares_of_the_rank(self):
        # Rank of the table too small: all weights 0.
        self.assertIs(is_told_paper(WHEEL, ("told", SPOTS, {rod: 0 for rod in WHEEL})), False)
        # All is right but the placing, which is not firm.
        rows = {"a": (1, 0), "b": (0, 1), "c": (1, 1), "d": (1, -1)}
        self.assertIs(is_told_paper(FOUR, ("told", {pin: (0, 0) for pin in rows}, dict.fromkeys(FOUR, 1))), False)
        flat = {pin: (x, 0) for pin, (x, _) in SPOTS.items()}
        self.assertIs(is_told_paper(WHEEL, ("told", flat, WEIGHTS)), False)
        on_line = {pin: spot[:1] for pin, spot in SPOTS.items()}
        # On the line the same weights have a table of rank 2, not of 3.
        self.assertIs(is_told_paper(WHEEL, ("told", on_line, WEIGHTS), space=1), False)

    def test_papers_that_are_wrong_in_one_place(self):
        spot, rod = ("a", ("a", "b"))
        wrong = [
            ["told", SPOTS, WEIGHTS], ("told", SPOTS), ("told", SPOTS, WEIGHTS, ()), ("Told", SPOTS, WEIGHTS),
            ("told", WEIGHTS, SPOTS), ("told", list(SPOTS.items()), WEIGHTS), ("told", SPOTS, list(WEIGHTS.items())),
            (SPOTS, WEIGHTS), (True, SPOTS, WEIGHTS), (["told"], SPOTS, WEIGHTS), ((), SPOTS, WEIGHTS),
            ("told", {**SPOTS, "f": (1, 1)}, WEIGHTS), ("told", SPOTS, {**WEIGHTS, ("b", "d"): 0}),
            ("told", {pin: SPOTS[pin] for pin in "abcd"}, WEIGHTS), ("cut", SPOTS, WEIGHTS), ("loose", SPOTS, WEIGHTS),
            ("told", SPOTS, {rod: WEIGHTS[rod] for rod in WHEEL.rods[1:]}), (), ("told",), None, "told", {},
        ]
        wrong += [("told", {**SPOTS, spot: bad}, WEIGHTS) for bad in
                  ([0, 0], (0,), (0, 0, 0), (False, 0), (0, False), (0, None), "00", None, 0, (0, TOO_LONG))]
        wrong += [("told", SPOTS, {**WEIGHTS, rod: bad}) for bad in (True, None, "3", (3,), 4, -3, TOO_LONG)]
        for value in wrong:
            self.assertIs(is_told_paper(WHEEL, value), False)
        # The weight of ac in the wheel is -3, and the one of ae is 1: True is not 1.
        self.assertIs(is_told_paper(WHEEL, ("told", SPOTS, {**WEIGHTS, ("a", "e"): True})), False)
        for value in WRONG:
            for space in (1, 2):
                self.assertIs(is_told_paper(WHEEL, value, space=space), False)

    def test_cuts_that_are_wrong_in_one_place(self):
        right = (
            ("cut", ("a", "b"), ("c", "d")), ("cut", ("a", "b"), ("e", "f")),
        )
        for value in right:
            self.assertIs(is_told_paper(TWIN, value), True)
        wrong = (
            ("cut", ("a", "b"), ("c",)), ("cut", ("a", "b"), ()), ("cut", ("a", "b"), ("c", "d", "e", "f")),
            ("cut", ("b", "a"), ("c", "d")), ("cut", ["a", "b"], ("c", "d")), ("cut", ("a", "b"), ["c", "d"]),
            ("cut", ("a", "b"), ("d", "c")), ("cut", ("a", "b"), ("c", "c", "d")), ("cut", ("a", "b"), ("a", "c", "d")),
            ("cut", ("a",), ("c", "d")), ("cut", ("a", "b", "c"), ("d",)), ("cut", ("a", "b"), ("c", "d", "x")),
            ("cut", ("a", "x"), ("c", "d")), ("cut", ("a", "b"), ("c", True)), ("cut", ("a", "b")),
            ("cut", ("a", "b"), ("c", "d"), ("e", "f")), ("cut", ("a", "b"), "cd"), ("cut", "ab", ("c", "d")),
            ["cut", ("a", "b"), ("c", "d")], ("cut", None, ("c", "d")), ("cut", ("a", "b"), None), ("cut", (), ("c", "d")),
        )
        for value in wrong:
            self.assertIs(is_told_paper(TWIN, value), False)
        self.assertIs(is_told_paper(TWIN, right[0], space=1), False)
        self.assertIs(is_told_paper(BOW, ("cut", ("c",), ("a", "b")), space=1), True)
        self.assertIs(is_told_paper(BOW, ("cut", ("c",), ("a",)), space=1), False)
        for value in (("cut", ("a", "b"), ("a", "c")), ("cut", ("a", "b"), ("b",)), ("Cut", ("a", "b"), ("c",))):
            self.assertIs(is_told_paper(LOOSE_EIGHT, value), False)
        # Several pieces can be on one side.
        self.assertIs(is_told_paper(LOOSE_EIGHT, ("cut", ("c", "f"), ("a", "b", "g"))), True)

    def test_partings_that_are_wrong_in_one_place(self):
        needed = ("needed", ("a", "b"), SINGLES)
        self.assertIs(is_told_paper(KITE, needed), True)
        self.assertIs(is_told_paper(RING, ("loose", tuple((rod,) for rod in RING.rods))), True)
        self.assertIs(is_told_paper(BOW, ("loose", (pairs("ab ac bc"), pairs("cd ce de")))), True)
        wrong = (
            ("needed", ("b", "a"), SINGLES), ("needed", ["a", "b"], SINGLES), ("needed", ("a", "c"), SINGLES),
            ("needed", ("c", "d"), SINGLES), ("needed", ("a", "b"), SINGLES[1:]), ("needed", ("a", "b"), SINGLES[::-1]),
            ("needed", ("a", "b"), list(SINGLES)), ("needed", ("a", "b"), SINGLES + (pairs("cd"),)),
            ("needed", ("a", "b"), (pairs("ab"),) + SINGLES), ("needed", ("a", "b"), (pairs("ac ad bc bd"),)),
            ("needed", ("a", "b"), (list(SINGLES[0]),) + SINGLES[1:]), ("needed", ("a", "b"), ((),) + SINGLES),
            ("needed", ("a", "b")), ("needed", SINGLES), ("needed", None, SINGLES), ("needed", ("a", "b"), None),
            ("loose", SINGLES), ("loose", (pairs("ab"),) + SINGLES), ("loose", (KITE.rods,)), ("loose",),
            ("Needed", ("a", "b"), SINGLES), ("loose", SINGLES, ()), ("loose", None), ("loose", KITE), ["loose", SINGLES], (True, SINGLES),
        )
        for value in wrong:
            self.assertIs(is_told_paper(KITE, value), False)
        rods = tuple((rod,) for rod in RING.rods)
        for value in (("loose", rods, ()), ("Loose", rods), ("told", rods), (True, rods), ("loose", rods[1:]), ("loose", (RING.rods,)), ("loose", rods[::-1]), ("loose", list(rods)),
                      ("loose", (tuple(reversed(pairs("ab ad"))), pairs("bc"), pairs("cd"))),
                      ("loose", rods[:3] + (pairs("cd ce"),)), ("loose", rods[:3] + (pairs("dc"),))):
            self.assertIs(is_told_paper(RING, value), False)
        # A parting whose sum is the full count shows nothing.
        self.assertIs(is_told_paper(WHEEL, ("loose", (WHEEL.rods,))), False)
        self.assertIs(is_told_paper(WHEEL, ("needed", ("a", "b"), (WHEEL.rods[1:],))), False)

    def test_told_papers_tell(self):
        rng = random.Random(85)
        for frame in (WHEEL, FOUR, SEVEN):
            _, placing, _ = told_paper(frame)
            turned = {pin: (3 * x - 4 * y + 7, 4 * x + 3 * y) for pin, (x, y) in placing.items()}
            large = {pin: (5 * x, 5 * y) for pin, (x, y) in placing.items()}
            self.assertEqual(squares(frame, turned), squares(frame, large))
            self.assertIs(are_alike(turned, large), True)
        # A cut lets one side be mirrored.
        placing = {pin: (rng.randrange(99), rng.randrange(99)) for pin in TWIN.pins}
        one, other = mirrored(placing, "a", "b", ("c", "d"))
        self.assertEqual(squares(TWIN, one), squares(TWIN, other))
        self.assertIs(are_alike(one, other), False)

    def test_what_is_not_true(self):
        firm = [frame for frame in (KITE, TWIN, THREES) if oracles.is_firm(frame, 2)]
        self.assertEqual([is_told(frame) for frame in firm], [False, False, False])
        self.assertIs(oracles.is_cut(THREES, 2), False)
        self.assertEqual(oracles.spare_rods(TWIN, 2), TWIN.rods)
        self.assertIs(is_told(FOUR | Frame.full(("a", "b", "e", "f"))), False)
        self.assertEqual((is_told(KITE, space=1), is_told(KITE)), (True, False))
        self.assertEqual((is_told(RING, space=1), is_told(JOINED, space=1)), (True, False))

    def test_wrong_arguments(self):
        frame = (WHEEL, InvalidFrame, is_frame)
        self.check_arguments(is_told, [frame], SPACE)
        self.check_arguments(told_paper, [frame], SPACE)
        self.check_arguments(is_told_paper, [frame, (None, None, never)], SPACE)
        for space in (0, 3, True, None, "2", TOO_LONG):
            self.refused(InvalidNumber, is_told_paper, WHEEL, None, space=space, kept=space)
            self.refused(InvalidFrame, is_told_paper, "WHEEL", None, space=space)
        for call in (is_told, told_paper):
            with self.assertRaises(TypeError):
                call(WHEEL, 2)

    def test_arguments_stay_and_answers_repeat(self):
        value = ("told", dict(reversed(list(SPOTS.items()))), dict(WEIGHTS))
        before = shown_as(value)
        self.assertIs(is_told_paper(frame=WHEEL, value=value, space=2), True)
        self.assertEqual(shown_as(value), before)
        first = told_paper(WHEEL)
        shown = shown_as(first)
        first[1]["a"] = None
        first[2].clear()
        self.assertEqual(shown_as(told_paper(frame=WHEEL, space=2)), shown)
