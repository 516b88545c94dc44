"""Build rows and free placings: promises 5.1 to 5.5."""

import itertools
import random

from lengthstell.errors import InvalidFrame, InvalidNumber, InvalidStep, Refused
from lengthstell.frame.frames import Frame
from lengthstell.place.built import build_row, frame_built, free_placing, is_build_row, is_free_placing
from tests import oracles
from tests.examples import (
    BOW,
    EIGHT,
    FOUR,
    KITE,
    LONG,
    LONGEST,
    LOOSE_EIGHT,
    NAMED,
    RING,
    SINGLE,
    THREES,
    TOO_LONG,
    TWIN,
    WHEEL,
    all_frames,
    pairs,
    random_frame,
    random_placing,
)
from tests.refusals import WRONG, Refusals, is_frame, is_space_number, never, told

KITE_ROW = (("start", "a", "b"), ("two", "c", "a", "b"), ("two", "d", "a", "b"))
ROW = (
    ("start", "a", "b"), ("two", "d", "a", "b"), ("two", "c", "a", "d"),
    ("three", "e", "a", "c", "b"), ("three", "f", "a", "b", "c"),
)
CURVE = {"a": (0, 0), "b": (1, 1), "c": (2, 4), "d": (3, 9), "e": (4, 16), "f": (5, 25)}
SEVEN_STEPS = (("start", "a", "b"),) + tuple(("two", pin, "a", "b") for pin in "cdefgh")
SPACE = {"space": (2, InvalidNumber, is_space_number)}


def random_build_row(rng, many):
    """A build row of so many pins, whose names come in any order."""
    names = rng.sample(["a", "b", "c", "d", "two", "star", "zz", "abcd"], many)
    row = [("start", *sorted(names[:2]))]
    for at in range(2, many):
        _, rods = oracles.built(row)
        if at > 2 and rng.random() < 0.6:
            one, other = rng.choice(rods)
            third = rng.choice([pin for pin in names[:at] if pin not in (one, other)])
            row.append(("three", names[at], one, other, third))
        else:
            row.append(("two", names[at], *sorted(rng.sample(names[:at], 2))))
    return tuple(row)


class BuildRowTest(Refusals):

    def test_examples(self):
        found = [
            frame_built(KITE_ROW) == KITE, is_build_row(KITE, KITE_ROW), is_build_row(KITE, KITE_ROW[:2]),
            is_build_row(FOUR, KITE_ROW),
        ]
        self.assertEqual(found, [True, True, False, False])
        found = [
            frame_built(ROW) == THREES, is_build_row(THREES, build_row(THREES)),
            is_build_row(THREES, ROW[:4] + (("three", "f", "a", "c", "b"),)),
        ]
        self.assertEqual(found, [True, True, False])
        self.refused(Refused, build_row, FOUR, kept=("crowd",))

    def test_all_frames_of_few_pins(self):
        for pins in ("a", "ab", "abc", "abcd", "abcde"):
            for frame in all_frames(pins):
                self.check_frame(frame)

    def test_named_and_random_frames(self):
        rng = random.Random(61)
        for frame in NAMED:
            self.check_frame(frame)
        for _ in range(40):
            self.check_frame(random_frame(rng, rng.randrange(6, 9)))

    def check_frame(self, frame):
        if len(frame.pins) == 1:
            self.refused(Refused, build_row, frame, kept=("pin",))
        elif not oracles.is_sparse(frame.rods, 2):
            self.refused(Refused, build_row, frame, kept=("crowd",))
        elif not oracles.is_firm(frame, 2):
            self.refused(Refused, build_row, frame, kept=("loose",))
        else:
            row = build_row(frame)
            self.assertEqual(oracles.built(row), (frame.pins, frame.rods))
            self.assertIsInstance(row, tuple)
            self.assertTrue(all(isinstance(step, tuple) for step in row))
            self.assertIs(is_build_row(frame, row), True)
            self.assertEqual(frame_built(row), frame)

    def test_pairs_that_will_not_do(self):
        # Each pin has three rods or more, and the first pair without a rod often will not do.
        for text in (
            "ab ac af bd bh cd ch dg dh ef eg eh fg", "ab ad ae af bd be bg cd ce ch fg fh gh",
            "ab ad ae bf bg ce cf ch df dg dh eh fg", "ac ad ae af bd be bg cg ch df ef fh gh",
            "af ag ah bd be bf bg cd ce ch dh ef eg",
        ):
            frame = Frame(tuple("abcdefgh"), pairs(text))
            self.assertEqual(min(len(frame.neighbours(pin)) for pin in frame.pins), 3)
            self.check_frame(frame)

    def test_rows_of_others(self):
        rng = random.Random(62)
        for _ in range(200):
            row = random_build_row(rng, rng.randrange(2, 9))
            pins, rods = oracles.built(row)
            frame = frame_built(row)
            self.assertEqual((frame.pins, frame.rods), (pins, rods))
            self.assertTrue(oracles.is_sparse(rods, 2) and oracles.is_firm(frame, 2))
            self.assertIs(is_build_row(frame, row), True)
            self.check_frame(frame)
            if len(row) > 1:
                self.assertIs(is_build_row(frame, row[:-1]), False)
                other = frame.without_pin(row[-1][1])
                self.assertIs(is_build_row(other, row), False)

    def test_a_pin_with_two_rods_can_be_last(self):
        rng = random.Random(63)
        for _ in range(40):
            frame = frame_built(random_build_row(rng, rng.randrange(3, 9)))
            self.assertIn(min(len(frame.neighbours(pin)) for pin in frame.pins), (2, 3))
            for pin in frame.pins:
                others = frame.neighbours(pin)
                if len(others) == 2:
                    row = build_row(frame.without_pin(pin)) + (("two", pin) + others,)
                    self.assertIs(is_build_row(frame, row), True)

    def test_seven_steps_and_eight(self):
        self.assertEqual(frame_built(SEVEN_STEPS).pins, tuple("abcdefgh"))
        self.assertIs(is_build_row(frame_built(SEVEN_STEPS), SEVEN_STEPS), True)
        self.refused(InvalidStep, frame_built, SEVEN_STEPS + (("two", "i", "a", "b"),))
        self.assertEqual(frame_built((("start", "two", "zz"),)).rods, (("two", "zz"),))
        self.assertEqual(len(build_row(frame_built(SEVEN_STEPS))), 7)

    def test_rows_that_are_wrong_in_one_place(self):
        wrong = [
            (), list(KITE_ROW), KITE_ROW[1:], (list(KITE_ROW[0]),) + KITE_ROW[1:], KITE_ROW + (KITE_ROW[0],),
            (("start", "b", "a"),) + KITE_ROW[1:], (("start", "a", "a"),), (("start", "a"),), (("start",),), ((),),
            (("start", "a", "b", "c"),), (("begin", "a", "b"),), (("two", "c", "a", "b"),), ("start", "a", "b"),
            (("start", "a", "bbbbb"),), (("start", "a", True),), (("start", "A", "b"),), (None,), None,
        ]
        for step in (
            ("two", "d", "b", "a"), ("two", "d", "a", "a"), ("two", "c", "a", "b"), ("two", "a", "b", "c"),
            ("two", "d", "a"), ("two", "d", "a", "b", "c"), ("two", "d", "a", "x"), ("two", "d", "d", "x"),
            ("two", True, "a", "b"), ("two", 1, "a", "b"), ["two", "d", "a", "b"], ("two", "dddde", "a", "b"),
            ("three", "d", "a", "b"), ("three", "d", "b", "a", "c"), ("three", "d", "a", "b", "a"),
            ("three", "d", "a", "b", "b"), ("three", "d", "a", "b", "x"), ("three", "d", "a", "b", "c", "c"),
            ("three", "c", "a", "b", "c"), ("three", "d", "a", "a", "c"), ["three", "d", "a", "b", "c"],
            ("three", "d", "a", "c", "a"), ("three", "d", "a", "c", "c"), ("three", "d", "a", "b", None), ("three", "d", "a", "b", ["c"]), ("four", "d", "a", "b"),
            ("start", "d", "a", "b"), ("start", "d", "e"), (), ("two",), None, True, "two", ("", "d", "a", "b"),
            (["two"], "d", "a", "b"), (FOUR, "d", "a", "b"),
        ):
            wrong.append(KITE_ROW[:2] + (step,))
        # The pair c and d is no rod of the kite.
        wrong.append(KITE_ROW + (("three", "e", "c", "d", "a"),))
        for value in wrong:
            self.refused(InvalidStep, frame_built, value)
            for frame in (KITE, SINGLE, Frame(("a", "b"), pairs("ab"))):
                self.assertIs(is_build_row(frame, value), False)

    def test_wrong_arguments(self):
        self.check_arguments(frame_built, [(KITE_ROW, InvalidStep, never)])
        self.check_arguments(build_row, [(KITE, InvalidFrame, is_frame)])
        self.check_arguments(is_build_row, [(KITE, InvalidFrame, is_frame), (KITE_ROW, None, never)])
        for value in WRONG:
            self.assertIs(is_build_row(KITE, value), False)
            self.assertIs(is_build_row(frame=SINGLE, value=value), False)

    def test_which_refusal_comes_first(self):
        self.refused(Refused, build_row, SINGLE, kept=("pin",))
        self.refused(Refused, build_row, Frame(("a", "b")), kept=("loose",))
        # Rods that are not sparse in a loose frame.
        self.refused(Refused, build_row, FOUR.with_pin("e"), kept=("crowd",))
        for frame, reason in ((RING, "loose"), (BOW, "loose"), (WHEEL, "crowd"), (TWIN, "crowd"), (EIGHT, "crowd"),
                              (LOOSE_EIGHT, "loose")):
            self.refused(Refused, build_row, frame, kept=(reason,))

    def test_arguments_stay_and_answers_repeat(self):
        rows = [KITE_ROW, ROW]
        before = told(rows)
        self.assertEqual(build_row(THREES), build_row(Frame(THREES.pins, THREES.rods[::-1])))
        self.assertEqual(frame_built(row=ROW), frame_built(ROW))
        self.assertEqual(told(rows), before)


class FreePlacingTest(Refusals):

    def test_examples(self):
        on_line = {"a": (0,), "b": (3,), "c": (1,), "d": (7,)}
        found = [
            is_free_placing(THREES, free_placing(THREES)), is_free_placing(THREES, CURVE),
            is_free_placing(Frame.full(THREES.pins), CURVE), is_free_placing(KITE, on_line, space=1),
        ]
        self.assertEqual(found, [True, False, True, True])

    def test_all_frames_of_few_pins(self):
        for pins in ("a", "ab", "abc", "abcd", "abcde"):
            for frame in all_frames(pins):
                self.check_frame(frame, space=2)
                self.check_frame(frame, space=1)

    def test_named_and_random_frames(self):
        rng = random.Random(64)
        frames = [random_frame(rng, rng.randrange(6, 9)) for _ in range(40)]
        for frame in frames + list(NAMED):
            self.check_frame(frame, space=2)
            self.check_frame(frame, space=1)

    def test_frames_for_which_not_each_spot_will_do(self):
        # On the first spots of the grid that are on no line the rank is too small.
        for text in (
            "ab ac ae bc bd cf de df ef", "ab ad ae bc be cd cf df ef", "ab ad af bc bf cd ce de ef",
            "ac ad ae bc be bf cd df ef", "ac ad af bc bd be ce df ef", "ab ac ae af bd bf cg de dg eg fg",
        ):
            rods = pairs(text)
            self.check_frame(Frame(tuple(sorted({pin for rod in rods for pin in rod})), rods), 2)

    def check_frame(self, frame, space):
        placing = free_placing(frame, space=space)
        self.assertTrue(oracles.is_free_placing(frame, placing, space))
        self.assertLess(max(abs(number) for spot in placing.values() for number in spot), 10 ** 100)
        self.assertTrue(all(isinstance(spot, tuple) for spot in placing.values()))
        self.assertIs(is_free_placing(frame, placing, space=space), True)
        self.assertIs(is_free_placing(frame, placing, space=3 - space), False)

    def test_placings_of_others(self):
        rng = random.Random(65)
        answers = []
        for at in range(150):
            frame = random_frame(rng, rng.randrange(1, 7)) if at % 2 else THREES
            for space in (1, 2):
                placing = random_placing(rng, frame, space, rng.choice((2, 4, 50, 10 ** 300)))
                answers.append(is_free_placing(frame, placing, space=space))
                self.assertIs(answers[-1], oracles.is_free_placing(frame, placing, space))
        self.assertGreater(min(answers.count(True), answers.count(False)), 30)

    def test_long_spots(self):
        long = {"a": (LONG, 0), "b": (0, LONGEST), "c": (-LONG, 1), "d": (5, -LONGEST)}
        self.assertIs(is_free_placing(KITE, long), True)
        self.assertIs(is_free_placing(KITE, {**long, "d": (5, -TOO_LONG)}), False)
        self.assertIs(is_free_placing(KITE, {**long, "d": (-LONG, 1)}), False)
        middle = {"a": (-LONGEST, -LONGEST), "b": (LONGEST, LONGEST), "c": (1, 1), "d": (0, 7)}
        self.assertIs(is_free_placing(KITE, middle), False)
        self.assertIs(is_free_placing(KITE, {**middle, "c": (1, 2)}), True)

    def test_placings_that_are_wrong_in_one_place(self):
        right = {"a": (0, 0), "b": (1, 0), "c": (0, 1), "d": (2, 5)}
        self.assertIs(is_free_placing(KITE, right), True)
        self.assertIs(is_free_placing(KITE, dict(reversed(list(right.items())))), True)
        less = {pin: right[pin] for pin in "abc"}
        wrong = [{**right, "d": spot} for spot in (
            (0, 0), (1, 0), (0, 2), (3, 0), (-1, 2), (True, 5), (2, False), [2, 5], (2,), (2, 5, 1), None, 7, "25",
            (2, None), (2, "5"), (), ((2, 5),), (2, TOO_LONG),
        )]
        for value in wrong + [less, {**right, "e": (9, 9)}, {**less, "x": (2, 5)}, list(right.items()), (right,)]:
            self.assertIs(is_free_placing(KITE, value), False)
        for value in ({"a": (0,), "b": (1,), "c": (2,), "d": (2,)}, {"a": (0,), "b": (1,), "c": (2,), "d": (True,)},
                      {"a": (0,), "b": (1,), "c": (2,), "d": (3, 4)}, right):
            self.assertIs(is_free_placing(KITE, value, space=1), False)
        for value in WRONG:
            self.assertIs(is_free_placing(WHEEL, value), False)
            self.assertIs(is_free_placing(SINGLE, value), isinstance(value, dict) and told(value) == told({"a": (1, 2)}))

    def test_spots_for_a_pin_more(self):
        rng = random.Random(66)
        for _ in range(40):
            row = random_build_row(rng, rng.randrange(3, 7))
            longer, shorter = frame_built(row), frame_built(row[:-1])
            placing = free_placing(shorter)
            word, pin, one, other, *_ = row[-1]
            (x, y), (z, w) = placing[one], placing[other]
            by, off = rng.choice((-3, 2, 5)), rng.randrange(1, 9)
            spot = (x + by * (z - x), y + by * (w - y))
            if word == "two":
                spot = (spot[0] - off * (w - y), spot[1] + off * (z - x))
            rows = oracles.rod_rows(longer, {**placing, pin: spot})
            self.assertEqual(oracles.rank(rows), 2 * len(longer.pins) - 3)

    def test_grid_has_a_free_spot(self):
        rng = random.Random(67)
        for _ in range(6):
            row = random_build_row(rng, 4)
            longer, shorter = frame_built(row), frame_built(row[:-1])
            placing = {pin: (3 * x - 7, 2 * y + x) for pin, (x, y) in free_placing(shorter).items()}
            spots = itertools.product(range(25), repeat=2)
            self.assertTrue(any(is_free_placing(longer, {**placing, row[-1][1]: spot}) for spot in spots))

    def test_what_is_not_true(self):
        # A sparse lot of rods need not have free rows in a free placing.
        self.assertIs(is_free_placing(Frame.full(THREES.pins), CURVE), True)
        self.assertLess(oracles.rank(oracles.rod_rows(THREES, CURVE)), len(THREES))

    def test_wrong_arguments(self):
        for call in (free_placing,):
            self.check_arguments(call, [(KITE, InvalidFrame, is_frame)], SPACE)
            with self.assertRaises(TypeError):
                call(KITE, 2)
        self.check_arguments(is_free_placing, [(KITE, InvalidFrame, is_frame), (None, None, never)], SPACE)
        for space in (0, 3, True, None, "2", TOO_LONG, (2,)):
            self.refused(InvalidNumber, is_free_placing, KITE, None, space=space, kept=space)

    def test_arguments_stay_and_answers_repeat(self):
        placing = {"d": (5, 1), "a": (0, 0), "c": (0, 1), "b": (1, 0)}
        before = told(placing)
        self.assertIs(is_free_placing(frame=KITE, value=placing, space=2), True)
        self.assertEqual(told(placing), before)
        first = free_placing(THREES)
        first["a"] = None
        self.assertEqual(told(free_placing(THREES)), told(free_placing(frame=THREES, space=2)))
