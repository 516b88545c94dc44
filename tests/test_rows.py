"""Rows of integers: promises 1.3 to 1.7."""

import random
import unittest
from fractions import Fraction
from math import gcd

from lengthstell.base import rows as rows_module
from lengthstell.base.elimination import PRIME
from lengthstell.base.rows import (
    are_free,
    cleared,
    determinant,
    is_square_sum,
    kernel,
    rank,
    solution,
)
from lengthstell.errors import InvalidNumber, InvalidOperation
from tests import oracles
from tests.examples import LONG, LONGEST, TOO_LONG
from tests.refusals import WRONG, Refusals, nested, told

SOME = ((1, 2, 3), (2, 4, 6), (1, 0, 1))


def product(row, other):
    return sum(x * y for x, y in zip(row, other))


def random_rows(rng, many, width, size):
    """Rows of which some are often sums of multiples of others."""
    free = [tuple(rng.randrange(-size, size + 1) for _ in range(width)) for _ in range(many)]
    rows = []
    for row in free:
        if rows and rng.random() < 0.4:
            by, other = rng.randrange(-2, 3), rng.choice(rows)
            row = tuple(by * entry + against for entry, against in zip(other, rng.choice(rows)))
        rows.append(row)
    return tuple(rows)


def is_plain_row(value):
    return isinstance(value, tuple) and 1 <= len(value) <= 28 and all(
        isinstance(entry, int) and not isinstance(entry, bool) and abs(entry) < TOO_LONG
        for entry in value
    )


def are_plain_rows(value):
    return isinstance(value, tuple) and len(value) <= 60 and all(
        is_plain_row(row) and len(row) == len(value[0]) for row in value
    )


class RowsTest(Refusals):

    def test_constants(self):
        self.assertEqual((rows_module.MAX_ROWS, rows_module.MAX_WIDTH), (60, 28))

    def test_examples(self):
        found = [
            rank(SOME), kernel(SOME, 3), kernel((), 2), are_free(SOME), are_free(((0, 0),)),
            cleared((-4, 0, 6)),
        ]
        self.assertEqual(found, [2, ((-1, -1, 1),), ((1, 0), (0, 1)), False, False, (-2, 0, 3)])
        found = [
            solution(SOME, (1, 2, 0)), solution(SOME, (0, 0, 1)), solution(SOME, (1, 1, 0)),
            solution(((0, 3),), (2,)),
        ]
        self.assertEqual(found, [((0, 1, 0), 2), ((2, -1, 0), 2), None, ((0, 2), 3)])
        found = [
            determinant(((2, 1), (1, 1))), determinant(()),
            is_square_sum(((1, -1), (-1, 1))), is_square_sum(((1, 2), (2, 1))),
        ]
        self.assertEqual(found, [1, 1, True, False])
        self.refused(InvalidOperation, is_square_sum, ((1, 2), (0, 1)))

    def test_no_rows_and_rows_of_noughts(self):
        self.assertEqual((rank(()), are_free(()), kernel((), 1)), (0, True, ((1,),)))
        self.assertEqual(len(kernel((), 28)), 28)
        self.assertEqual((rank(((0, 0),)), are_free(((0, 0),))), (0, False))
        self.assertEqual((rank(((0, 5),)), are_free(((0, 5),))), (1, True))
        self.assertEqual(kernel(((0, 0),), 2), ((1, 0), (0, 1)))
        self.assertEqual(cleared((0, 0, 0)), (0, 0, 0))
        self.assertEqual(solution(((0, 0),), (0,)), ((0, 0), 1))
        self.assertIsNone(solution(((0, 0),), (1,)))
        self.assertEqual((determinant(((0,),)), is_square_sum(((0,),)), is_square_sum(())), (0, True, True))

    def test_random_rows(self):
        rng = random.Random(13)
        for _ in range(300):
            width = rng.randrange(1, 8)
            rows = random_rows(rng, rng.randrange(1, 9), width, rng.choice((1, 3, 10 ** 6, 10 ** 40)))
            self.check_rows(rows, width)

    def check_rows(self, rows, width, leads=None):
        leads = oracles.led_columns(rows, width) if leads is None else leads
        self.assertEqual(rank(rows), len(leads))
        self.assertIs(are_free(rows), len(leads) == len(rows))
        found = kernel(rows, width)
        opened = [column for column in range(width) if column not in leads]
        self.assertEqual(len(found), len(opened))
        for column, row in zip(opened, found):
            self.assertIsInstance(row, tuple)
            self.assertEqual(len(row), width)
            self.assertGreater(row[column], 0)
            self.assertEqual([row[other] for other in opened if other != column], [0] * (len(opened) - 1))
            self.assertEqual(gcd(*row), 1)
            self.assertEqual([product(row, other) for other in rows], [0] * len(rows))

    def test_random_solutions(self):
        rng = random.Random(14)
        answers = []
        for _ in range(400):
            width = rng.randrange(1, 6)
            rows = random_rows(rng, rng.randrange(1, 6), width, rng.choice((1, 3, 10 ** 9)))
            values = tuple(rng.randrange(-4, 5) for _ in range(width))
            aims = tuple(product(row, values) for row in rows)
            if rng.random() < 0.3:
                aims = tuple(rng.randrange(-2, 3) for _ in rows)
            answers.append(self.check_solution(rows, width, aims))
        self.assertIn(None, answers)
        self.assertGreater(len([answer for answer in answers if answer and answer[1] > 1]), 30)

    def check_solution(self, rows, width, aims, leads=None):
        found = solution(rows, aims)
        wide = [row + (aim,) for row, aim in zip(rows, aims)]
        if oracles.rank(wide) > oracles.rank(rows):
            self.assertIsNone(found)
            return None
        values, scale = found
        leads = oracles.led_columns(rows, width) if leads is None else leads
        self.assertEqual([product(row, values) for row in rows], [aim * scale for aim in aims])
        self.assertEqual([values[at] for at in range(width) if at not in leads], [0] * (width - len(leads)))
        self.assertEqual((len(values), gcd(scale, *values)), (width, 1))
        self.assertGreaterEqual(scale, 1)
        return found

    def test_solution_has_the_least_scale(self):
        self.assertEqual(solution(((-3,),), (0,)), ((0,), 1))
        self.assertEqual(solution(((-3,),), (6,)), ((-2,), 1))
        self.assertEqual(solution(((-3,),), (4,)), ((-4,), 3))
        self.assertEqual(solution(((2, 0), (0, 3)), (1, 1)), ((3, 2), 6))

    def test_cleared(self):
        self.assertEqual(cleared((6,)), (1,))
        self.assertEqual(cleared((-6,)), (-1,))
        self.assertEqual(cleared((0, -9, 6, 0)), (0, -3, 2, 0))
        self.assertEqual(cleared((LONG, -LONG)), (1, -1))
        self.assertEqual(cleared((7, LONG)), (7, LONG))

    def test_random_tables(self):
        rng = random.Random(15)
        for _ in range(200):
            many = rng.randrange(0, 6)
            size = rng.choice((1, 4, 10 ** 12))
            table = random_rows(rng, many, many, size) if many else ()
            self.assertEqual(determinant(table), oracles.determinant(table))

    def test_determinant_swaps_rows(self):
        self.assertEqual(determinant(((0, 1), (1, 0))), -1)
        self.assertEqual(determinant(((0, 0, 1), (0, 1, 0), (1, 0, 0))), -1)
        self.assertEqual(determinant(((0, 2, 0), (0, 0, 3), (5, 0, 0))), 30)
        self.assertEqual(determinant(((1, 2), (2, 4))), 0)
        self.assertEqual(determinant(((-3,),)), -3)

    def test_random_square_sums(self):
        rng = random.Random(16)
        answers = []
        for _ in range(400):
            many = rng.randrange(1, 6)
            parts = [[rng.randrange(-2, 3) for _ in range(many)] for _ in range(rng.randrange(1, 6))]
            table = [[sum(p[i] * p[j] for p in parts) for j in range(many)] for i in range(many)]
            for _ in range(rng.randrange(0, 2)):
                i, j, by = rng.randrange(many), rng.randrange(many), rng.randrange(-2, 3)
                table[i][j] += by
                table[j][i] = table[i][j]
            table = tuple(tuple(row) for row in table)
            answers.append(is_square_sum(table))
            self.assertIs(answers[-1], oracles.is_square_sum(table))
        self.assertGreater(min(answers.count(True), answers.count(False)), 50)

    def test_square_sums_with_noughts_on_the_diagonal(self):
        self.assertIs(is_square_sum(((0, 1), (1, 0))), False)
        self.assertIs(is_square_sum(((0, 1), (1, 5))), False)
        self.assertIs(is_square_sum(((0, 0), (0, 5))), True)
        self.assertIs(is_square_sum(((0, 0), (0, -1))), False)
        self.assertIs(is_square_sum(((-1,),)), False)
        self.assertIs(is_square_sum(((1, 1, 1), (1, 1, 2), (1, 2, 1))), False)

    def test_most_rows_and_columns(self):
        row = tuple(range(1, 29))
        self.assertEqual(rank((row,) * 60), 1)
        self.refused(InvalidOperation, rank, (row,) * 61)
        self.assertEqual(rank((row + (1,),)[:0]), 0)
        for call in (rank, are_free):
            self.refused(InvalidOperation, call, (row + (1,),))
            self.refused(InvalidOperation, call, ((),))
        self.refused(InvalidOperation, kernel, (row + (1,),), 29)
        self.refused(InvalidOperation, solution, (row + (1,),), (1,))
        self.refused(InvalidOperation, cleared, row + (1,))
        self.refused(InvalidOperation, cleared, ())
        self.refused(InvalidOperation, determinant, (row + (1,),) * 29)
        self.assertEqual(len(kernel((row,) * 60, 28)), 27)
        self.assertEqual(solution((row,) * 60, (2,) * 60), ((2,) + (0,) * 27, 1))
        rng = random.Random(17)
        wide = tuple(tuple(rng.randrange(-9, 10) for _ in range(28)) for _ in range(60))
        self.assertEqual((rank(wide), are_free(wide), are_free(wide[:28]), kernel(wide, 28)), (28, False, True, ()))
        table = tuple(tuple(int(i == j) * 2 for j in range(28)) for i in range(28))
        self.assertEqual((determinant(table), is_square_sum(table)), (2 ** 28, True))

    def test_sixty_equal_rows(self):
        rows = ((1, 0, 2, 1) * 7,) * 60
        self.assertEqual((rank(rows), are_free(rows), len(kernel(rows, 28))), (1, False, 27))
        self.check_rows(rows, 28)
        self.assertEqual(solution(rows, (3,) * 60), ((3,) + (0,) * 27, 1))
        self.assertIsNone(solution(rows, (3,) * 59 + (4,)))
        self.assertEqual((rank(((0,) * 28,) * 60), len(kernel(((0,) * 28,) * 60, 28))), (0, 28))

    def test_sixty_rows_of_few_kinds_and_unlike_ones(self):
        rng = random.Random(18)
        for many, size in ((2, 3), (5, 1), (14, 9), (30, 2), (60, 1), (60, 10 ** 9)):
            kinds = [tuple(rng.randrange(-size, size + 1) for _ in range(28)) for _ in range(many)]
            self.check_sixty(rng, tuple(rng.choice(kinds) for _ in range(60)))
        for many, size in ((1, 2), (6, 1), (13, 3), (27, 1)):
            free = [tuple(rng.randrange(-size, size + 1) for _ in range(28)) for _ in range(many)]
            rows = []
            while len(rows) < 60:
                by = [rng.randrange(-4, 5) for _ in free]
                row = tuple(sum(x * y for x, y in zip(by, column)) for column in zip(*free))
                # There are not so many unlike multiples of one row that are small.
                rows.append(tuple(len(rows) * entry for entry in row) if many == 1 else row)
            self.check_sixty(rng, tuple(rows))
        sparse = tuple(tuple(int(at in (one % 28, (5 * one + 1) % 28)) for at in range(28)) for one in range(60))
        self.check_sixty(rng, sparse)

    def check_sixty(self, rng, rows):
        leads = oracles.echelon(rows)[1]
        self.check_rows(rows, 28, leads)
        values = tuple(rng.randrange(-4, 5) for _ in range(28))
        aims = tuple(product(row, values) for row in rows)
        self.assertIsNotNone(self.check_solution(rows, 28, aims, leads))
        self.check_solution(rows, 28, aims[:-1] + (aims[-1] + 1,), leads)

    def test_equal_rows_with_wrong_entries(self):
        row = (1, 0, 2, 1) * 7
        for wrong in (True, False, None, "1", (1,), TOO_LONG, -TOO_LONG, [1]):
            for at in (0, 27):
                bad = row[:at] + (wrong,) + row[at + 1:]
                for rows in ((row,) * 59 + (bad,), (bad,) + (row,) * 59, (bad,) * 60):
                    self.refused(InvalidOperation, rank, rows)
                    self.refused(InvalidOperation, are_free, rows)
                    self.refused(InvalidOperation, kernel, rows, 28)
                    self.refused(InvalidOperation, solution, rows, (1,) * 60)
                self.refused(InvalidOperation, solution, (row,) * 28, bad)
                self.refused(InvalidOperation, determinant, (row,) * 27 + (bad,))
        self.refused(InvalidOperation, rank, (row,) * 59 + (list(row),))

    def test_long_integers(self):
        rows = ((LONGEST, -LONG), (LONG, LONGEST))
        exact = LONGEST * LONGEST + LONG * LONG
        self.assertEqual(determinant(rows), exact)
        self.assertEqual(rank(rows), 2)
        self.assertEqual(kernel(((LONGEST, LONG),), 2), ((-LONG, LONGEST),))
        self.assertEqual(kernel(((LONG, -LONG),), 2), ((1, 1),))
        self.assertIs(is_square_sum(((LONGEST, LONG), (LONG, LONGEST))), True)
        self.assertIs(is_square_sum(((LONG, LONGEST), (LONGEST, LONG))), False)
        values, scale = solution(rows, (1, 0))
        self.assertEqual(Fraction(values[0], scale), Fraction(LONGEST, exact))
        self.assertEqual(Fraction(values[1], scale), Fraction(-LONG, exact))
        self.assertGreater(scale, 10 ** 3000)

    def test_too_long_integers(self):
        for number in (TOO_LONG, -TOO_LONG):
            self.refused(InvalidOperation, rank, ((1, number),))
            self.refused(InvalidOperation, are_free, ((number,),))
            self.refused(InvalidOperation, kernel, ((number,),), 1)
            self.refused(InvalidOperation, solution, ((number,),), (1,))
            self.refused(InvalidOperation, solution, ((1,),), (number,))
            self.refused(InvalidOperation, cleared, (number, 1))
            self.refused(InvalidOperation, determinant, ((number,),))
            self.refused(InvalidOperation, is_square_sum, ((number,),))
            self.refused(InvalidNumber, kernel, (), number, kept=number)

    def test_residues_are_only_a_hint(self):
        self.assertEqual(rank(((PRIME, 1), (0, PRIME))), 2)
        self.assertEqual(rank(((PRIME,),)), 1)
        self.assertEqual(rank(((0, 1, 0), (PRIME, 0, 0))), 2)
        self.assertEqual(kernel(((0, 1, 0), (PRIME, 0, 1)), 3), ((-1, 0, PRIME),))
        self.assertEqual(kernel(((PRIME, 1, 0), (0, PRIME, 1)), 3), ((1, -PRIME, PRIME ** 2),))
        self.assertEqual(solution(((PRIME, 0), (0, PRIME)), (1, 2)), ((1, 2), PRIME))
        self.assertEqual(determinant(((PRIME, 1), (0, PRIME))), PRIME ** 2)

    def test_small_integers_whose_residues_mislead(self):
        # The determinant of the first two is the prime, so that their residues are not free.
        self.assertEqual(32768 * 32768 - 35, PRIME)
        first, second, third, last = (32768, 35, 0), (1, 32768, 0), (0, 1, 0), (0, 0, 1)
        self.assertEqual((rank((first[:2], second[:2])), determinant((first[:2], second[:2]))), (2, PRIME))
        self.assertEqual(kernel((first[:2], second[:2]), 2), ())
        multiples = tuple(tuple(by * entry for entry in second) for by in range(1, 9))
        for rows in (
            (first, second), (first, second, third), (first,) + multiples, (first,) + multiples + (third,),
            (first, third) + multiples, (first,) + multiples + (third, last), multiples + (first, third),
            (first,) + multiples[:4] + (third,) + multiples[4:], (last, first) + multiples + (third, last),
        ):
            free = 2 + int(last in rows)
            self.assertEqual((rank(rows), are_free(rows)), (free, len(rows) == free))
            self.check_rows(rows, 3)
            aims = tuple(3 * row[0] - 2 * row[1] + row[2] for row in rows)
            self.check_solution(rows, 3, aims)
            self.check_solution(rows, 3, aims[:-1] + (aims[-1] + 1,))

    def test_wrong_rows(self):
        self.check_arguments(rank, [((), InvalidOperation, are_plain_rows)])
        self.check_arguments(are_free, [((), InvalidOperation, are_plain_rows)])
        self.check_arguments(cleared, [((1,), InvalidOperation, is_plain_row)])
        for wrong in (((1, 2), (3,)), ((1, True),), ([1, 2],), [(1, 2)], ((1, None),), ((1, "2"),)):
            for call in (rank, are_free, determinant, is_square_sum):
                self.refused(InvalidOperation, call, wrong)

    def test_wrong_kernels(self):
        self.check_arguments(kernel, [
            ((), InvalidOperation, are_plain_rows),
            (2, InvalidNumber, lambda value: value in range(1, 29) and not isinstance(value, bool)),
        ])
        self.refused(InvalidNumber, kernel, ((1, 2),), 0, kept=0)
        self.refused(InvalidNumber, kernel, ((1, 2),), 29, kept=29)
        self.refused(InvalidNumber, kernel, ((1,),), True, kept=True)
        self.refused(InvalidOperation, kernel, ((1, 2),), 3)
        self.refused(InvalidOperation, kernel, ((1, 2),), 1)
        self.refused(InvalidOperation, kernel, ((1, 2), (1,)), 0)

    def test_wrong_solutions(self):
        self.check_arguments(solution, [
            (((1, 2), (3, 4)), InvalidOperation, lambda value: are_plain_rows(value) and value != ()),
            ((1, 2), InvalidOperation, lambda value: is_plain_row(value) and len(value) == 2),
        ])
        self.refused(InvalidOperation, solution, (), ())
        for aims in ((), (1,), (1, 2, 3), (1, True), [1, 2], (1, None), {0: 1, 1: 2}):
            self.refused(InvalidOperation, solution, ((1, 2), (3, 4)), aims)

    def test_wrong_tables(self):
        def is_table(value):
            return are_plain_rows(value) and (value == () or len(value) == len(value[0]))
        self.check_arguments(determinant, [((), InvalidOperation, is_table)])
        self.check_arguments(is_square_sum, [
            ((), InvalidOperation, lambda value: is_table(value) and value != ((1, 2), (3, 4))),
        ])
        self.assertEqual(determinant(((1, 2), (3, 4))), -2)
        for table in (((1, 2),), ((1,), (2,)), ((1, 2, 3), (4, 5, 6))):
            self.refused(InvalidOperation, determinant, table)
            self.refused(InvalidOperation, is_square_sum, table)

    def test_arguments_stay_and_answers_repeat(self):
        rows = ((2, 4, 6), (0, 0, 0), (1, 1, 7))
        table = ((4, 2, 0), (2, 1, 0), (0, 0, 3))
        before = told((rows, table))
        for _ in range(2):
            self.assertEqual(rank(rows=rows), 2)
            self.assertEqual(kernel(rows=rows, width=3), ((-11, 4, 1),))
            self.assertEqual(solution(rows=rows, aims=(2, 0, 1)), ((1, 0, 0), 1))
            self.assertEqual(cleared(row=rows[0]), (1, 2, 3))
            self.assertEqual(determinant(table=table), 0)
            self.assertIs(is_square_sum(table=table), True)
            self.assertIs(are_free(rows=rows), False)
        self.assertEqual(told((rows, table)), before)

    def test_deeply_nested_values(self):
        for value in WRONG:
            for call in (rank, cleared, determinant):
                self.refused(InvalidOperation, call, (value, nested(value, 3)))


if __name__ == "__main__":
    unittest.main()
