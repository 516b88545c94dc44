"""Elimination without fractions, for rows of integers of any length.

The *reduced form* of rows is a tuple (leads, opened, form, scale). The leads are
the led columns, ascending, and the opened ones the open columns. The form has one
row for each of the leads, of which only the entries at the open columns are kept:
at its own led column it has the scale, which is above 0, and 0 at the other ones.
Each of the rows is a sum of multiples of these, and each of these of the rows.
"""

from math import gcd

# The greatest prime below 2 ** 30: products of residues are reckoned fast.
PRIME = 1073741789
# Behind so many rows that are not free, one behind the other, there are seldom others.
PATIENCE = 4


def product_of(row, other):
    """The product of two rows of one width."""
    return sum([entry * against for entry, against in zip(row, other)])


def divided(row):
    """The row, divided by the greatest common divisor of its entries."""
    common = 0
    for entry in row:
        common = gcd(common, entry)
        if common == 1:
            return tuple(row)
    if common == 0:
        return tuple(row)
    return tuple([entry // common for entry in row])


def _unlike(rows):
    """The rows, of which equal ones are told once."""
    return list({tuple(row): True for row in rows})


def _take_by_residues(rows, start, leads, taken, most, patience):
    """Takes rows, from a start on, that are free of those taken modulo the prime.

    Such rows are free of one another, and they are found fast. This ends, and the
    index is told, where `most` rows are taken, or where so many rows as the
    patience tells, one behind the other, have not been taken.
    """
    idle = 0
    for at in range(start, len(rows)):
        if len(taken) >= most or idle == patience:
            return at
        idle += 1
        if _adds_lead(leads, rows[at]):
            taken.append(rows[at])
            idle = 0
    return len(rows)


def _adds_lead(leads, row):
    """Clears the residues of a row by those that lead at columns; whether they lead at a further one.

    The residues that lead at a column are kept from this column on.
    """
    left = [entry % PRIME for entry in row]
    start = 0
    for column in range(len(leads)):
        factor = left[column - start]
        if factor != 0:
            tail = left[column - start + 1:]
            if leads[column] is None:
                leads[column] = (factor, tail)
                return True
            head, above = leads[column]
            left = [(head * entry - factor * against) % PRIME for entry, against in zip(tail, above)]
            start = column + 1
    return False


def _row_with(rows, start, column):
    """The index, from a start on, of the first row that is not 0 at a column, or None."""
    for at in range(start, len(rows)):
        if rows[at][column] != 0:
            return at
    return None


def _swap(values, one, other):
    values[one], values[other] = values[other], values[one]


def _reduced_alone(rows, width):
    """The reduced form of rows, all of which are taken."""
    left = [list(divided(row)) for row in rows]
    leads = []
    opened = []
    scale = 1
    for column in range(width):
        # Led columns are left out of all rows, so this one stands behind the open ones.
        at = _row_with(left, len(leads), len(opened))
        if at is None:
            opened.append(column)
        else:
            _swap(left, len(leads), at)
            scale = _clear_others(left, len(leads), len(opened), scale)
            leads.append(column)
    form = left[:len(leads)]
    if scale < 0:
        form = [[-entry for entry in row] for row in form]
    return leads, opened, form, abs(scale)


def _clear_others(left, top, column, scale):
    """Clears a column of all rows but the top one, and leaves it out of all; the new scale.

    The scale is the entry by which the step before led. It divides all entries,
    because they are determinants of parts of the first rows.
    """
    lead = left[top].pop(column)
    for at in range(len(left)):
        if at != top:
            factor = left[at].pop(column)
            if factor != 0 or lead != scale:
                left[at] = _combined(factor, left[at], lead, left[top], scale)
    return lead


def _combined(factor, row, lead, above, scale):
    """The row times the lead, less the row above times the factor, divided by the scale."""
    return [(lead * entry - factor * against) // scale for entry, against in zip(row, above)]


def reduced(rows, width, likely):
    """The reduced form of rows of a width, whose rank is most likely not above a number."""
    unlike = _unlike(rows)
    if len(unlike) < width and _are_small(unlike):
        # There are open columns then, and the residues would be no faster.
        return _reduced_alone(unlike, width)
    taken, found = _searched(unlike, width, likely, width)
    if found is None:
        return list(range(width)), [], [[] for _ in taken], 1
    return found


def _are_small(rows):
    return all([-PRIME < min(row) and max(row) < PRIME for row in rows])


def _searched(rows, width, likely, most):
    """Free rows of which all rows are sums of multiples, and the reduced form of them.

    There is None for the form if `most` rows are free, as many as can be. The rank
    is most likely not above `likely`. Residues that tell too little cost time only.
    """
    leads = [None] * width
    taken = []
    start = 0
    # Where the integers are small, it is faster to look early whether no row is missed.
    patience = PATIENCE if len(rows) > 2 * PATIENCE and _are_small(rows) else len(rows)
    while True:
        start = _take_by_residues(rows, start, leads, taken, likely, patience)
        if len(taken) == most:
            return taken, None
        found = _reduced_alone(taken, width)
        outside = _index_outside(found, rows)
        if outside is None:
            return taken, found
        if not _adds_lead(leads, rows[outside]):
            # Not all rows that are taken from here on need be free, so they are not counted.
            most = None
        taken.append(rows[outside])
        start = max(start, outside + 1)
        patience = len(rows)


def _index_outside(found, rows):
    """The index of the first row that is no sum of multiples of a reduced form, or None."""
    for at in range(len(rows)):
        if not _is_sum_within(found, rows[at]):
            return at
    return None


def _is_sum_within(found, row):
    """Whether a row is a sum of multiples of a reduced form: its entries at the led columns tell of which."""
    leads, opened, form, scale = found
    left = [scale * row[column] for column in opened]
    for lead, ends in zip(leads, form):
        factor = row[lead]
        if factor != 0:
            left = [entry - factor * end for entry, end in zip(left, ends)]
    return not any(left)


def kernel_of(rows, width):
    """The kernel of rows of a width: a row for each open column, without common divisors."""
    leads, opened, form, scale = reduced(rows, width, width)
    return tuple([
        _kernel_row(leads, [row[at] for row in form], opened[at], scale, width)
        for at in range(len(opened))
    ])


def _kernel_row(leads, ends, column, scale, width):
    """The row of the kernel for an open column, at which the form has some ends."""
    common = scale
    for end in ends:
        common = gcd(common, end)
    entries = [0] * width
    entries[column] = scale // common
    for lead, end in zip(leads, ends):
        entries[lead] = -(end // common)
    return tuple(entries)


def rank_of(rows, width, most):
    """The rank of rows of a width, which is known to be at most `most`."""
    unlike = _unlike(rows)
    greatest = min(most, width, len(unlike))
    taken, found = _searched(unlike, width, greatest, greatest)
    if found is None:
        return len(taken)
    return len(found[0])


def determinant_of(table):
    """The determinant of a square table."""
    if len(table) == 0:
        return 1
    left = list(table)
    sign = 1
    scale = 1
    while len(left) > 1:
        at = _row_with(left, 0, 0)
        if at is None:
            return 0
        if at > 0:
            _swap(left, 0, at)
            sign = -sign
        lead, *above = left[0]
        left = [_combined(row[0], row[1:], lead, above, scale) for row in left[1:]]
        scale = lead
    return sign * left[0][0]


def is_sum_of_squares(table):
    """Whether a symmetric square table is a sum of squares.

    Each step takes out an entry above 0 of the diagonal, which keeps the answer.
    """
    left = [list(row) for row in table]
    scale = 1
    while len(left) > 0:
        diagonal = [left[at][at] for at in range(len(left))]
        if min(diagonal) < 0:
            return False
        if max(diagonal) == 0:
            return all([entry == 0 for row in left for entry in row])
        top = diagonal.index(max(diagonal))
        left = _without_square(left, top, scale)
        scale = diagonal[top]
    return True


def _without_square(left, top, scale):
    """The table less the square that belongs to an entry of the diagonal."""
    above = left.pop(top)
    lead = above.pop(top)
    rows = []
    for row in left:
        factor = row.pop(top)
        rows.append(_combined(factor, row, lead, above, scale))
    return rows
