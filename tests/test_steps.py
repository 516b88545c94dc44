"""Steps to told frames: promises 7.1 to 7.4."""

import random

from lengthstell.errors import (
    InvalidFrame,
    InvalidName,
    InvalidPlacing,
    InvalidRod,
    InvalidStep,
    InvalidWeights,
    Refused,
    TooMany,
    UnknownName,
)
from lengthstell.frame.frames import Frame
from lengthstell.told.steps import frame_of_row, is_told_row, last_steps, split, told_row
from lengthstell.told.told import is_told, told_paper
from tests import oracles
from tests.examples import (
    EIGHT,
    FOUR,
    KITE,
    LONGEST,
    NAMED,
    SEVEN,
    SINGLE,
    TOO_LONG,
    WHEEL,
    all_frames,
    random_frame,
    random_placing,
    random_told_frame,
    renamed_at_random,
    shapes,
)
from tests.refusals import WRONG, Refusals, is_frame, never, told

SQUARE = {"a": (0, 0), "b": (1, 0), "c": (1, 1), "d": (0, 1)}
EVEN = {("a", "b"): 1, ("a", "c"): -1, ("a", "d"): 1, ("b", "c"): 1, ("b", "d"): -1, ("c", "d"): 1}
FULL = ("full", "a", "b", "c", "d")
ROW = (FULL, ("three", "e", "b", "d", "a"))


def last_by_all(frame):
    """All last steps, by trying each rod and each pin with three rods."""
    if len(frame.pins) <= 4 or not oracles.is_told(frame, 2):
        return ()
    found = []
    for rod in frame.rods:
        if oracles.is_told(frame.without_rod(*rod), 2):
            found.append(("rod", *rod))
    for pin in frame.pins:
        others = frame.neighbours(pin)
        if len(others) == 3:
            for third in others:
                one, other = [each for each in others if each != third]
                if (one, other) in frame.missing:
                    if oracles.is_told(frame.without_pin(pin).with_rod(one, other), 2):
                        found.append(("three", pin, one, other, third))
    return tuple(sorted(found))


class StepsTest(Refusals):

    def test_examples(self):
        found = [
            frame_of_row(ROW) == WHEEL, is_told_row(WHEEL, ROW), is_told_row(FOUR, ROW), told_row(FOUR),
            told_row(KITE), last_steps(FOUR),
        ]
        self.assertEqual(found, [True, True, False, (("full", "a", "b", "c", "d"),), None, ()])
        self.assertEqual(last_steps(WHEEL), (
            ("three", "b", "c", "e", "a"), ("three", "c", "b", "d", "a"),
            ("three", "d", "c", "e", "a"), ("three", "e", "b", "d", "a"),
        ))
        wide, spots, weights = split(FOUR, SQUARE, EVEN, ("a", "b"), "e", "c")
        found = [
            wide.rods[:3], len(wide), spots["e"], spots["c"], weights[("a", "e")], weights[("b", "e")],
            weights[("c", "e")], weights[("a", "c")],
        ]
        self.assertEqual(found, [(("a", "c"), ("a", "d"), ("a", "e")), 8, (1, 0), (2, 2), 2, 2, 0, -1])
        self.refused(UnknownName, split, FOUR, SQUARE, EVEN, ("a", "b"), "e", "a", kept="a")
        self.refused(InvalidStep, frame_of_row, (FULL, ("rod", "a", "b")))

    def test_all_frames_of_few_pins(self):
        for pins in ("a", "ab", "abc", "abcd", "abcde"):
            for frame in all_frames(pins):
                self.check_frame(frame)

    def test_frames_of_six_pins_and_more(self):
        rng = random.Random(91)
        frames = [renamed_at_random(rng, frame) for frame in shapes("abcdef")]
        frames += [random_frame(rng, rng.randrange(7, 9)) for _ in range(20)] + list(NAMED) + [SEVEN]
        frames += [random_told_frame(rng, rng.randrange(6, 9)) for _ in range(20)]
        for frame in frames:
            self.check_frame(frame)

    def check_frame(self, frame):
        row = told_row(frame)
        self.assertIs(row is not None, len(frame.pins) >= 4 and oracles.is_told(frame, 2))
        steps = last_steps(frame)
        if row is None:
            self.assertEqual(steps, ())
            return
        self.assertEqual(oracles.made_by_told_row(row), (frame.pins, frame.rods))
        self.assertTrue(isinstance(row, tuple) and all(isinstance(step, tuple) for step in row))
        self.assertIs(is_told_row(frame, row), True)
        self.assertEqual(frame_of_row(row), frame)
        if len(frame.pins) <= 6:
            self.assertEqual(steps, last_by_all(frame))
        self.assertEqual(len(steps) > 0, len(frame.pins) > 4)
        if len(row) > 1:
            self.assertIn(row[-1], steps)
            self.assertIs(is_told_row(frame, row[:-1]), False)
        for at in range(1, len(row)):
            self.assertIs(is_told(frame_of_row(row[:at])), True)

    def test_whichever_last_step_is_taken(self):
        rng = random.Random(92)
        for _ in range(12):
            frame = random_told_frame(rng, rng.randrange(5, 8))
            for step in last_steps(frame):
                if step[0] == "rod":
                    ahead = frame.without_rod(*step[1:])
                else:
                    ahead = frame.without_pin(step[1]).with_rod(step[2], step[3])
                self.assertIs(is_told_row(frame, told_row(ahead) + (step,)), True)

    def test_rows_that_reach_eight_pins(self):
        row = (FULL,)
        for at, pin in enumerate("efgh"):
            rod = frame_of_row(row).rods[at]
            third = next(each for each in "abcd" if each not in rod)
            row = row + (("three", pin, *rod, third),)
            self.assertEqual(len(frame_of_row(row).pins), 5 + at)
        eight = frame_of_row(row)
        self.assertIs(is_told_row(eight, row), True)
        third = next(each for each in eight.pins if each not in eight.rods[0])
        self.refused(InvalidStep, frame_of_row, row + (("three", "i", *eight.rods[0], third),))
        full = row + tuple(("rod",) + pair for pair in eight.missing)
        self.assertEqual(frame_of_row(full), EIGHT)
        self.assertIs(is_told_row(EIGHT, full), True)
        self.refused(InvalidStep, frame_of_row, full + (("rod", "a", "b"),))
        self.assertEqual(len(last_steps(EIGHT)), 28)

    def test_what_is_not_true(self):
        # Each pin of a full frame of five pins has four rods.
        self.assertEqual({step[0] for step in last_steps(Frame.full(tuple("abcde")))}, {"rod"})
        # A pin with just three rods that cannot be put in last: it has them to a triangle.
        frame = FOUR.with_pin("e", "a", "b", "c")
        self.assertEqual(frame.neighbours("e"), ("a", "b", "c"))
        self.assertEqual({step[0] for step in last_steps(frame)}, {"rod"})

    def test_rows_that_are_wrong_in_one_place(self):
        wrong = [
            (), list(ROW), ROW[1:], (list(FULL),), FULL, (("full", "a", "b", "c"),), (("full", "a", "b", "c", "d", "e"),),
            (("full", "b", "a", "c", "d"),), (("full", "a", "b", "d", "c"),), (("full", "a", "b", "c", "c"),), (("full", "a", "b", "c", "ddddd"),),
            (("full", "a", "b", "c", 4),), (("Full", "a", "b", "c", "d"),), (None,), None, (FULL, FULL),
            (("full", "a", "b", "c", True),), (("three", "e", "b", "d", "a"),), ((),), ("full",),
        ]
        for step in (
            ("three", "e", "d", "b", "a"), ("three", "e", "b", "d", "b"), ("three", "e", "b", "d", "d"),
            ("three", "e", "b", "d"), ("three", "e", "b", "d", "a", "c"), ("three", "a", "b", "d", "c"),
            ("three", "e", "b", "x", "a"), ("three", "e", "b", "d", "x"), ("three", "e", "b", "d", "e"),
            ["three", "e", "b", "d", "a"], ("three", "eeeee", "b", "d", "a"), ("three", "E", "b", "d", "a"),
            ("three", True, "b", "d", "a"), ("three", "e", "b", "d", None), ("three", "e", "b", ["d"], "a"),
            ("two", "e", "b", "d"), ("rod", "a", "b"), ("rod", "a", "e"), ("rod", "a", "a"), ("rod", "a"), ("rod",),
            ("full", "a", "b", "c", "d"), (), None, True, "rod", (["three"], "e", "b", "d", "a"), (True, "a", "b"),
        ):
            wrong.append((FULL, step))
            wrong.append((FULL, step, ("rod", "b", "d")))
        for step in (("rod", "d", "b"), ["rod", "b", "d"], ("rod", "b", "d", "e"), ("rods", "b", "d"), ("rod", "b", 1)):
            wrong.append(ROW + (step,))
        self.assertEqual(frame_of_row(ROW + (("rod", "b", "d"),)), WHEEL.with_rod("b", "d"))
        for value in wrong:
            self.refused(InvalidStep, frame_of_row, value)
            for frame in (FOUR, WHEEL, SINGLE):
                self.assertIs(is_told_row(frame, value), False)
        for value in WRONG:
            self.assertIs(is_told_row(WHEEL, value), False)

    def test_wrong_arguments(self):
        for call in (last_steps, told_row):
            self.check_arguments(call, [(WHEEL, InvalidFrame, is_frame)])
        self.check_arguments(is_told_row, [(WHEEL, InvalidFrame, is_frame), (ROW, None, never)])
        self.check_arguments(frame_of_row, [(ROW, InvalidStep, never)])

    def test_arguments_stay_and_answers_repeat(self):
        before = told(ROW)
        self.assertIs(is_told_row(frame=WHEEL, value=ROW), True)
        self.assertEqual(frame_of_row(row=ROW), WHEEL)
        self.assertEqual((told_row(frame=SEVEN), last_steps(frame=SEVEN)), (told_row(SEVEN), last_steps(SEVEN)))
        self.assertEqual(told(ROW), before)


class SplitTest(Refusals):

    def test_splits(self):
        rng = random.Random(93)
        for _ in range(60):
            frame = random_told_frame(rng, rng.randrange(4, 8))
            placing, weights = random_placing(rng, frame, 2, 9), {rod: rng.randrange(-3, 4) for rod in frame.rods}
            if rng.random() < 0.7 and len(frame.pins) <= 7:
                _, placing, weights = told_paper(frame)
            rod, pin = rng.choice(frame.rods), rng.choice(("e", "z", "new"))
            third = rng.choice([each for each in frame.pins if each not in rod])
            if pin in frame.pins:
                self.refused(InvalidName, split, frame, placing, weights, rod, pin, third)
            elif weights[rod] == 0:
                self.refused(Refused, split, frame, placing, weights, rod, pin, third, kept=("weight",))
            elif oracles.turn(placing[rod[0]], placing[rod[1]], placing[third]) == 0:
                self.refused(Refused, split, frame, placing, weights, rod, pin, third, kept=("line",))
            else:
                self.check_split(frame, placing, weights, rod, pin, third)

    def check_split(self, frame, placing, weights, rod, pin, third):
        found = split(frame, placing, weights, rod, pin, third)
        self.assertIsInstance(found, tuple)
        wide, spots, heavy = found
        self.assertEqual(wide, frame.without_rod(*rod).with_pin(pin, *rod, third))
        wanted = {each: tuple(2 * x for x in placing[each]) for each in frame.pins}
        wanted[pin] = tuple(x + y for x, y in zip(placing[rod[0]], placing[rod[1]]))
        self.assertEqual(spots, wanted)
        wanted = {each: weights[each] for each in frame.rods if each != rod}
        wanted.update({tuple(sorted((pin, end))): 2 * weights[rod] for end in rod})
        wanted[tuple(sorted((pin, third)))] = 0
        self.assertEqual(heavy, wanted)
        self.assertEqual((list(spots), list(heavy)), (list(wide.pins), list(wide.rods)))
        self.check_ranks(frame, placing, weights, rod, found)

    def check_ranks(self, frame, placing, weights, rod, found):
        wide, spots, heavy = found
        before, behind = oracles.rod_rows(frame, placing), oracles.rod_rows(wide, spots)
        self.assertEqual(oracles.rank(behind), oracles.rank(before) + 2)
        balanced = oracles.is_in_balance(frame, placing, weights)
        self.assertIs(oracles.is_in_balance(wide, spots, heavy), balanced)
        if balanced:
            table, new = oracles.weight_table(frame, weights), oracles.weight_table(wide, heavy)
            self.assertEqual(oracles.rank(new), oracles.rank(table) + 1)
            if weights[rod] < 0:
                self.assertIsNone(oracles.square_sum_rank(new))
            elif oracles.square_sum_rank(table) is not None:
                self.assertIsNotNone(oracles.square_sum_rank(new))

    def test_long_integers(self):
        long = {"a": (0, 0), "b": (LONGEST, 0), "c": (0, LONGEST), "d": (-LONGEST, -LONGEST)}
        weights = {rod: LONGEST for rod in FOUR}
        wide, spots, heavy = split(FOUR, long, weights, ("b", "c"), "m", "d")
        self.assertEqual((spots["b"], spots["m"]), ((2 * LONGEST, 0), (LONGEST, LONGEST)))
        self.assertEqual(heavy[("b", "m")], 2 * LONGEST)
        self.refused(InvalidPlacing, split, FOUR, {**long, "a": (TOO_LONG, 0)}, weights, ("b", "c"), "m", "d")
        self.refused(InvalidWeights, split, FOUR, long, {**weights, ("a", "b"): TOO_LONG}, ("b", "c"), "m", "d")

    def test_refusals(self):
        ab = ("a", "b")
        flat = {"a": (0, 0), "b": (1, 0), "c": (5, 0), "d": (0, 1)}
        self.refused(Refused, split, FOUR, flat, EVEN, ab, "e", "c", kept=("line",))
        self.refused(Refused, split, FOUR, {**flat, "b": (0, 0)}, EVEN, ab, "e", "d", kept=("line",))
        self.refused(Refused, split, FOUR, {**flat, "c": (0, 0)}, EVEN, ab, "e", "c", kept=("line",))
        self.assertEqual(split(FOUR, flat, EVEN, ab, "e", "d")[1]["e"], (1, 0))
        none = {**EVEN, ab: 0}
        self.refused(Refused, split, FOUR, SQUARE, none, ab, "e", "c", kept=("weight",))
        self.refused(Refused, split, FOUR, flat, none, ab, "e", "c", kept=("weight",))
        placing = {pin: (0, at) for at, pin in enumerate(EIGHT.pins)}
        weights = {rod: 0 for rod in EIGHT}
        self.refused(TooMany, split, EIGHT, placing, weights, ab, "i", "c", kept=8)
        self.refused(InvalidName, split, EIGHT, placing, weights, ab, "h", "c")
        self.refused(UnknownName, split, EIGHT, placing, weights, ab, "i", "b", kept="b")
        self.refused(UnknownName, split, FOUR, SQUARE, EVEN, ab, "e", "e", kept="e")
        self.refused(UnknownName, split, FOUR, SQUARE, none, ab, "e", "x", kept="x")

    def test_wrong_arguments(self):
        on_line = {pin: (at,) for at, pin in enumerate("abcd")}
        self.check_arguments(split, [
            (FOUR, InvalidFrame, is_frame), (SQUARE, InvalidPlacing, lambda value: told(value) == told(SQUARE_TWO)),
            (EVEN, InvalidWeights, never), (("a", "b"), InvalidRod, lambda value: value in FOUR.rods),
            ("e", InvalidName, lambda value: value == "ab"),
            ("c", UnknownName, lambda value: isinstance(value, str) and value in ("c", "d")),
        ])
        self.refused(InvalidPlacing, split, FOUR, on_line, EVEN, ("a", "b"), "e", "c")
        self.refused(InvalidPlacing, split, FOUR, on_line, None, ("b", "a"), "a", "a")
        self.refused(InvalidName, split, FOUR, SQUARE, EVEN, ("a", "b"), "d", "a")
        self.refused(InvalidRod, split, KITE, SQUARE, {rod: 1 for rod in KITE}, ("c", "d"), "e", "a")
        self.refused(InvalidWeights, split, FOUR, SQUARE, {**EVEN, ("a", "b"): True}, ("a", "b"), "e", "c")

    def test_arguments_stay(self):
        placing, weights = dict(reversed(list(SQUARE.items()))), dict(reversed(list(EVEN.items())))
        before = told((placing, weights))
        found = split(frame=FOUR, placing=placing, weights=weights, rod=("a", "b"), pin="e", third="c")
        self.assertEqual(told((placing, weights)), before)
        self.assertEqual(told(found), told(split(FOUR, SQUARE, EVEN, ("a", "b"), "e", "c")))
        found[1]["a"] = found[2][("a", "c")] = None
        self.assertEqual(told((placing, weights)), before)


# The placing of four pins that is among the wrong values of other places.
SQUARE_TWO = {"a": (0, 0), "b": (2, 0), "c": (2, 2), "d": (0, 2)}
