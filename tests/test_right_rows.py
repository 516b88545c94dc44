"""Rows at right angles, and what comes of them: promises 6.1 to 6.4."""

import itertools
import random

from lengthstell.errors import InvalidFrame, InvalidNumber, InvalidOperation, TooMany
from lengthstell.frame.frames import Frame
from lengthstell.place.placings import is_balance, is_firm_at
from lengthstell.told import rows as rows_module
from lengthstell.told.rows import are_right_rows, placing_of_rows, right_rows
from tests import oracles
from tests.examples import (
    EIGHT,
    FOUR,
    JOINED,
    KITE,
    LONGEST,
    LOOSE_EIGHT,
    NAMED,
    RING,
    SINGLE,
    THREES,
    TOO_LONG,
    TWIN,
    WHEEL,
    all_frames,
    pairs,
    random_frame,
    renamed_at_random,
    shapes,
)
from tests.refusals import WRONG, Refusals, is_frame, is_space_number, never, told

ROWS = ((1, 2), (1, 0), (1, 1), (0, 1), (1, -1))
SPACE = {"space": (2, InvalidNumber, is_space_number)}


def digits(numbers):
    return len(str(max([abs(number) for number in numbers], default=0)))


class RightRowsTest(Refusals):

    def test_constants(self):
        self.assertEqual(rows_module.MOST_MADE, 7)

    def test_examples(self):
        found = [
            are_right_rows(WHEEL, ROWS), are_right_rows(WHEEL, ((2, 2), *ROWS[1:])), right_rows(TWIN),
            right_rows(THREES) is None, are_right_rows(KITE, ((1, 0), (0, 1), (1, 1), (1, -1)), space=1),
        ]
        self.assertEqual(found, [True, False, None, False, True])
        placing, balanced = placing_of_rows(THREES, right_rows(THREES))
        self.assertEqual([is_balance(THREES, placing, balanced), is_firm_at(THREES, placing)], [True, False])

    def test_all_frames_of_few_pins(self):
        for pins in ("a", "ab", "abc", "abcd", "abcde"):
            for frame in all_frames(pins):
                self.check_frame(frame, 1)
                self.check_frame(frame, 2)

    def test_named_and_random_frames(self):
        rng = random.Random(71)
        frames = [renamed_at_random(rng, frame) for frame in shapes("abcdef")]
        frames += [random_frame(rng, 7) for _ in range(20)]
        rings = [Frame(tuple("abcdefg"), tuple(tuple(sorted((order[at - 1], order[at]))) for at in range(7)))
                 for order in (rng.sample("abcdefg", 7) for _ in range(20))]
        for frame in frames + rings + [frame for frame in NAMED if len(frame.pins) <= 7]:
            self.check_frame(frame, 1)
            self.check_frame(frame, 2)

    def test_frames_whose_rows_grow(self):
        # In these orders of the pins the integers grow fast, if the rows are made in the same order.
        for text in (
            "ac ad ae ag bc bd be bf bg cf", "ab ac ad ae ag bc bd be bf bg cf", "ad ae af bd be bg cf cg fg",
            "ad ae bd be bg cf cg df fg",
            "ab bc cd de ef fg ag", "af be cg ad bg ce df", "ac bc bd de ef fg ag", "ae be bf cf cg dg ad",
        ):
            frame = Frame(tuple("abcdefg"), tuple(sorted(pairs(text))))
            self.check_frame(frame, 1)
            self.check_frame(frame, 2)
            rng = random.Random(76)
            for _ in range(10):
                self.check_frame(renamed_at_random(rng, frame), 1)

    def check_frame(self, frame, space):
        rows = right_rows(frame, space=space)
        cut = len(frame.pins) > space + 1 and oracles.is_cut(frame, space)
        self.assertIs(rows is None, cut)
        if rows is None:
            return
        self.assertTrue(oracles.are_right_rows(frame, rows, space))
        self.assertLessEqual(digits([entry for row in rows for entry in row]), 12)
        self.assertIsInstance(rows, tuple)
        self.assertTrue(all(isinstance(row, tuple) for row in rows))
        self.assertIs(are_right_rows(frame, rows, space=space), True)
        self.check_placing(frame, rows, space)

    def check_placing(self, frame, rows, space):
        found = placing_of_rows(frame, rows, space=space)
        self.assertIsInstance(found, tuple)
        placing, weights = found
        self.assertEqual((list(placing), list(weights)), (list(frame.pins), list(frame.rods)))
        numbers = [number for spot in placing.values() for number in spot] + list(weights.values())
        self.assertLessEqual(digits(numbers), 600)
        self.assertTrue(oracles.do_come_of(frame, rows, placing, weights, space))
        self.assertTrue(oracles.is_in_balance(frame, placing, weights))
        table = oracles.weight_table(frame, weights)
        self.assertEqual(oracles.square_sum_rank(table), oracles.depth(frame, space))
        firm = oracles.rank(oracles.rod_rows(frame, placing)) == oracles.full_count(len(frame.pins), space)
        if space == 1 and len(frame.pins) >= 3:
            self.assertTrue(firm)
        if space == 2 and len(frame.pins) >= 4 and not oracles.is_told(frame, 2):
            self.assertFalse(firm)
        return firm

    def test_few_pins_have_empty_rows(self):
        for space in (1, 2):
            for pins in ("a", "ab", "abc")[:space + 1]:
                for frame in all_frames(pins):
                    rows = ((),) * len(pins)
                    self.assertEqual(right_rows(frame, space=space), rows)
                    for value, answer in ((rows, True), (rows + ((),), False), (rows[1:], False),
                                          (list(rows), False), (([],) + rows[1:], False), (((1,),) * len(pins), False)):
                        self.assertIs(are_right_rows(frame, value, space=space), answer)
                    placing, weights = placing_of_rows(frame, rows, space=space)
                    self.assertEqual(weights, {rod: 0 for rod in frame.rods})
                    self.assertTrue(oracles.do_come_of(frame, rows, placing, weights, space))

    def test_rows_of_others(self):
        rng = random.Random(72)
        answers = []
        for _ in range(300):
            space = rng.choice((1, 2))
            many = rng.randrange(space + 2, 7)
            size = rng.choice((1, 2, 40, 10 ** 13))
            width = many - 1 - space
            rows = tuple(tuple(rng.randrange(-size, size + 1) for _ in range(width)) for _ in range(many))
            pins = tuple("abcdefgh"[:many])
            rods = tuple(
                (pins[i], pins[j]) for i, j in itertools.combinations(range(many), 2)
                if sum(x * y for x, y in zip(rows[i], rows[j])) != 0 or rng.random() < 0.5
            )
            frame = Frame(pins, rods)
            answers.append(are_right_rows(frame, rows, space=space))
            self.assertIs(answers[-1], oracles.are_right_rows(frame, rows, space))
            if answers[-1] and digits([entry for row in rows for entry in row]) <= 12:
                self.check_placing(frame, rows, space)
        self.assertGreater(min(answers.count(True), answers.count(False)), 60)

    def test_rows_times_integers(self):
        rng = random.Random(73)
        for frame in (WHEEL, THREES, FOUR, RING):
            for space in (1, 2):
                rows = right_rows(frame, space=space)
                if rows is None:
                    continue
                scaled = tuple(tuple(by * entry for entry in row)
                               for row in rows for by in [rng.choice((-5, -1, 2, 10 ** 5))])
                self.assertIs(are_right_rows(frame, scaled, space=space), True)
                self.check_placing(frame, scaled, space)

    def test_firm_placings_come_of_all_right_rows_or_of_none(self):
        self.assertFalse(self.check_placing(THREES, right_rows(THREES), 2))
        self.assertTrue(self.check_placing(WHEEL, ROWS, 2))
        rows = ((1, 2, 3), (3, 0, -1), (2, 1, -4), (2, 1, -4), (1, 1, 1), (0, 1, 0))
        self.assertIs(are_right_rows(WHEEL, rows), False)

    def test_eight_pins(self):
        rng = random.Random(74)
        for frame in (EIGHT, LOOSE_EIGHT):
            for space in (1, 2, 0, None):
                if space in (1, 2):
                    self.refused(TooMany, right_rows, frame, space=space, kept=7)
                    self.refused(TooMany, placing_of_rows, frame, None, space=space, kept=7)
                else:
                    self.refused(InvalidNumber, right_rows, frame, space=space, kept=space)
                    self.refused(InvalidNumber, placing_of_rows, frame, None, space=space, kept=space)
        for space in (1, 2):
            rows = tuple(tuple(rng.randrange(-99, 100) for _ in range(7 - space)) for _ in range(8))
            self.assertIs(are_right_rows(EIGHT, rows, space=space), True)
            self.assertIs(oracles.are_right_rows(EIGHT, rows, space), True)
            self.assertIs(are_right_rows(LOOSE_EIGHT, rows, space=space), False)
            self.assertIs(are_right_rows(EIGHT, rows[:7] + (rows[0],), space=space), False)

    def test_short_integers(self):
        short = ((10 ** 12 - 1,), (1,), (-(10 ** 12 - 1),), (2,))
        placing, weights = placing_of_rows(FOUR, short)
        self.assertTrue(oracles.do_come_of(FOUR, short, placing, weights, 2))
        for number in (10 ** 12, -10 ** 12):
            rows = ((number,),) + short[1:]
            self.assertIs(are_right_rows(FOUR, rows), True)
            self.refused(InvalidOperation, placing_of_rows, FOUR, rows)
        full = Frame.full(tuple("abcdefg"))
        rng = random.Random(75)
        for space in (1, 2):
            rows = tuple(tuple(rng.choice((-1, 1)) * rng.randrange(10 ** 11, 10 ** 12) for _ in range(6 - space))
                         for _ in range(7))
            self.check_placing(full, rows, space)

    def test_long_integers(self):
        self.assertIs(are_right_rows(FOUR, ((LONGEST,), (1,), (-LONGEST,), (3,))), True)
        self.assertIs(are_right_rows(FOUR, ((TOO_LONG,), (1,), (-1,), (3,))), False)
        long = ((LONGEST, 1), (1, -LONGEST), (LONGEST, 3), (LONGEST - 1, LONGEST))
        self.assertIs(are_right_rows(FOUR.without_rod("a", "b"), long, space=1), True)
        self.assertIs(are_right_rows(FOUR.without_rod("a", "c"), long, space=1), False)
        self.assertIs(are_right_rows(FOUR, long[:3] + ((LONGEST, 1),), space=1), False)

    def test_rows_that_are_wrong_in_one_place(self):
        wrong = [
            list(ROWS), ROWS[:4], ROWS + ((1, 7),), ROWS[::-1], (list(ROWS[0]),) + ROWS[1:], (ROWS,), None, {},
            ((1, 2, 0),) + ROWS[1:], ((1,),) + ROWS[1:], ((),) + ROWS[1:], ((0, 0),) + ROWS[1:],
            ((2, 0),) + ROWS[1:], ((1, True),) + ROWS[1:], ((True, 2),) + ROWS[1:], ((1, "2"),) + ROWS[1:],
            ((1, None),) + ROWS[1:], ((1, TOO_LONG),) + ROWS[1:], ("ab",) + ROWS[1:], (7,) + ROWS[1:],
            ROWS[:1] + ((True, 0),) + ROWS[2:], ROWS[:1] + ((1, False),) + ROWS[2:],
        ]
        for value in wrong:
            self.assertIs(are_right_rows(WHEEL, value), False)
            self.refused(InvalidOperation, placing_of_rows, WHEEL, value)
        self.assertIs(are_right_rows(WHEEL, ROWS, space=1), False)
        self.refused(InvalidOperation, placing_of_rows, WHEEL, ROWS, space=1)
        for value in WRONG:
            self.assertIs(are_right_rows(WHEEL, value), False)

    def test_wrong_arguments(self):
        frame = (WHEEL, InvalidFrame, is_frame)
        self.check_arguments(right_rows, [frame], SPACE)
        self.check_arguments(are_right_rows, [frame, (None, None, never)], SPACE)
        self.check_arguments(placing_of_rows, [frame, (ROWS, InvalidOperation, never)])
        self.check_arguments(placing_of_rows, [frame, (ROWS, None, never)], SPACE)
        # The space is asked before the rows are, and the frame before both.
        self.refused(InvalidNumber, placing_of_rows, WHEEL, None, space=3, kept=3)
        self.refused(InvalidFrame, placing_of_rows, None, None, space=3)
        self.refused(TooMany, placing_of_rows, EIGHT, None, kept=7)
        for space in (0, 3, True, None, "2", TOO_LONG):
            self.refused(InvalidNumber, are_right_rows, WHEEL, None, space=space, kept=space)
        for call in (right_rows, are_right_rows, placing_of_rows):
            with self.assertRaises(TypeError):
                call(WHEEL, ROWS, 2)

    def test_arguments_stay_and_answers_repeat(self):
        rows = right_rows(JOINED, space=1)
        self.assertIsNone(rows)
        first = placing_of_rows(frame=WHEEL, rows=ROWS, space=2)
        shown = told(first)
        first[0]["a"] = None
        first[1][("a", "b")] = None
        self.assertEqual(told(placing_of_rows(WHEEL, ROWS)), shown)
        self.assertEqual(right_rows(WHEEL), right_rows(frame=WHEEL, space=2))
        self.assertIs(are_right_rows(frame=WHEEL, value=ROWS, space=2), True)
        self.assertEqual(right_rows(SINGLE), ((),))
