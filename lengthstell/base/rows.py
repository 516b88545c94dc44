"""Rows of integers: rank, kernel, solutions, determinants and sums of squares."""

from math import gcd

from lengthstell.base.elimination import (
    determinant_of,
    divided,
    is_sum_of_squares,
    kernel_of,
    rank_of,
    reduced,
)
from lengthstell.base.words import are_integers, is_integer
from lengthstell.errors import InvalidNumber, InvalidOperation

MAX_ROWS = 60
MAX_WIDTH = 28


def rank(rows):
    """The greatest number of rows among them that are free of one another."""
    _check_rows(rows)
    width = _width_of(rows)
    return rank_of(rows, width, width)


def are_free(rows):
    """Whether all rows are free of one another."""
    return rank(rows) == len(rows)


def kernel(rows, width):
    """The tuple of the rows of the kernel, one for each open column."""
    _check_rows(rows)
    if not is_integer(width) or not 1 <= width <= MAX_WIDTH:
        raise InvalidNumber(width)
    if len(rows) > 0 and _width_of(rows) != width:
        raise InvalidOperation("the rows have another width")
    return kernel_of(rows, width)


def solution(rows, aims):
    """The pair (values, scale) whose product with each row is its aim times the scale."""
    _check_rows(rows)
    if len(rows) == 0:
        raise InvalidOperation("there are no rows")
    if not _are_aims(rows, aims):
        raise InvalidOperation("the aims are not one integer for each row")
    width = _width_of(rows)
    wide = [row + (aim,) for row, aim in zip(rows, aims)]
    leads, _, form, scale = reduced(wide, width + 1, width)
    if width in leads:
        return None
    # The aims stand behind all columns, so they are the last of the open ones.
    return _least_solution(leads, [row[-1] for row in form], scale, width)


def cleared(row):
    """The row divided by the greatest common divisor of its entries."""
    if not _is_row(row):
        raise InvalidOperation("this is no row")
    return divided(row)


def determinant(table):
    """The determinant of a square table."""
    _check_table(table)
    return determinant_of(table)


def is_square_sum(table):
    """Whether a symmetric square table is a sum of squares."""
    _check_table(table)
    if not _is_symmetric(table):
        raise InvalidOperation("the table is not symmetric")
    return is_sum_of_squares(table)


def _is_row(value):
    return isinstance(value, tuple) and 1 <= len(value) <= MAX_WIDTH and are_integers(value)


def _are_rows(value):
    if not isinstance(value, tuple) or len(value) > MAX_ROWS:
        return False
    for row in value:
        if not _is_row(row) or len(row) != len(value[0]):
            return False
    return True


def _check_rows(value):
    if not _are_rows(value):
        raise InvalidOperation("these are no rows")


def _check_table(value):
    if not _are_rows(value) or len(value) != _width_of(value):
        raise InvalidOperation("this is no square table")


def _width_of(rows):
    """The width of rows, 0 if there are none."""
    if len(rows) == 0:
        return 0
    return len(rows[0])


def _are_aims(rows, value):
    return isinstance(value, tuple) and len(value) == len(rows) and are_integers(value)


def _is_symmetric(table):
    indices = range(len(table))
    return all([table[one][other] == table[other][one] for one in indices for other in indices])


def _least_solution(leads, ends, scale, width):
    """The solution with the least scale, where each led column has its end divided by the scale."""
    common = scale
    for end in ends:
        common = gcd(common, end)
    values = [0] * width
    for lead, end in zip(leads, ends):
        values[lead] = end // common
    return tuple(values), scale // common
