"""Elimination without fractions, for rows of integers of any length.

The *reduced form* of rows is a triple (leads, form, scale). The leads are the led
columns, ascending. The form has one row for each of them, with the scale, which
is above 0, at its own led column and 0 at the other ones. Each of the rows is a
sum of multiples of these, and each of these of the rows.
"""

from math import gcd

# The prime 2 ** 61 - 1.
PRIME = 2305843009213693951


def product_of(row, other):
    """The product of two rows of one width."""
    return sum([entry * against for entry, against in zip(row, other)])


def divided(row):
    """The row, divided by the greatest common divisor of its entries."""
    common = 0
    for entry in row:
        common = gcd(common, entry)
    if common == 0:
        return tuple(row)
    return tuple([entry // common for entry in row])


def _row_with(rows, start, column):
    """The index, from a start on, of the first row that is not 0 at a column, or None."""
    for at in range(start, len(rows)):
        if rows[at][column] != 0:
            return at
    return None


def _swap(values, one, other):
    values[one], values[other] = values[other], values[one]


def _free_by_residues(rows, width):
    """Indices of rows that are free of one another modulo the prime.

    Such rows are free of one another. Most often they are as many as can be, and
    they are found fast where the integers are long.
    """
    left = [[entry % PRIME for entry in row] for row in rows]
    order = list(range(len(rows)))
    found = 0
    for column in range(width):
        at = _row_with(left, found, column)
        if at is not None:
            _swap(left, found, at)
            _swap(order, found, at)
            _clear_residues_below(left, found, column)
            found += 1
    return order[:found]


def _clear_residues_below(left, top, column):
    lead = left[top]
    for at in range(top + 1, len(left)):
        factor = left[at][column]
        if factor != 0:
            left[at] = [
                (lead[column] * entry - factor * above) % PRIME
                for entry, above in zip(left[at], lead)
            ]


def _combined(row, lead, column, scale):
    """The row with 0 at the column, where the leading row is not 0.

    The scale is the entry by which the step before led. It divides all entries,
    because they are determinants of parts of the first rows.
    """
    factor = row[column]
    return [
        (lead[column] * entry - factor * above) // scale
        for entry, above in zip(row, lead)
    ]


def _reduced_alone(rows, width):
    """The reduced form of rows, all of which are taken."""
    left = [list(divided(row)) for row in rows]
    leads = []
    scale = 1
    for column in range(width):
        top = len(leads)
        at = _row_with(left, top, column)
        if at is not None:
            _swap(left, top, at)
            _clear_others(left, top, column, scale)
            scale = left[top][column]
            leads.append(column)
    form = left[:len(leads)]
    if scale < 0:
        form = [[-entry for entry in row] for row in form]
    return leads, form, abs(scale)


def _clear_others(left, top, column, scale):
    for at in range(len(left)):
        if at != top:
            left[at] = _combined(left[at], left[top], column, scale)


def reduced(rows, width):
    """The reduced form of rows of a width."""
    taken = _free_by_residues(rows, width)
    while True:
        found = _reduced_alone([rows[at] for at in taken], width)
        further = _index_outside(rows, taken, _kernel_rows(found, width))
        if further is None:
            return found
        # The residues have missed a row that is free of those taken.
        taken.append(further)


def _index_outside(rows, taken, kernel_rows):
    """The index of a row that is no sum of multiples of those taken, or None.

    The kernel rows are those of the rows that are taken.
    """
    for at in range(len(rows)):
        if at not in taken:
            for kernel_row in kernel_rows:
                if product_of(rows[at], kernel_row) != 0:
                    return at
    return None


def _kernel_rows(found, width):
    """The rows of the kernel of a reduced form, each with the scale at its open column."""
    leads, form, scale = found
    kernel_rows = []
    for column in range(width):
        if column not in leads:
            entries = [0] * width
            entries[column] = scale
            for lead, row in zip(leads, form):
                entries[lead] = -row[column]
            kernel_rows.append(entries)
    return kernel_rows


def kernel_of(rows, width):
    """The kernel of rows of a width: a row for each open column, without common divisors."""
    found = reduced(rows, width)
    return tuple([divided(entries) for entries in _kernel_rows(found, width)])


def rank_of(rows, width, most):
    """The rank of rows of a width, which is known to be at most `most`."""
    sure = len(_free_by_residues(rows, width))
    if sure in (most, width, len(rows)):
        return sure
    return len(reduced(rows, width)[0])


def determinant_of(table):
    """The determinant of a square table."""
    left = [list(row) for row in table]
    sign = 1
    scale = 1
    for column in range(len(left)):
        at = _row_with(left, column, column)
        if at is None:
            return 0
        if at != column:
            _swap(left, column, at)
            sign = -sign
        for below in range(column + 1, len(left)):
            left[below] = _combined(left[below], left[column], column, scale)
        scale = left[column][column]
    return sign * scale


def is_sum_of_squares(table):
    """Whether a symmetric square table is a sum of squares.

    Each step takes out an entry above 0 of the diagonal, which keeps the answer.
    """
    left = [list(row) for row in table]
    scale = 1
    while len(left) > 0:
        diagonal = [left[at][at] for at in range(len(left))]
        if min(diagonal) < 0:
            return False
        if max(diagonal) == 0:
            return all([entry == 0 for row in left for entry in row])
        top = diagonal.index(max(diagonal))
        left = _without_square(left, top, scale)
        scale = diagonal[top]
    return True


def _without_square(left, top, scale):
    """The table less the square that belongs to an entry of the diagonal."""
    others = [at for at in range(len(left)) if at != top]
    rows = []
    for at in others:
        row = _combined(left[at], left[top], top, scale)
        rows.append([row[column] for column in others])
    return rows
