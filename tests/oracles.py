"""Slow answers, reckoned as the document words them, to compare the package with."""

import functools
import itertools
from fractions import Fraction

from tests.examples import subsets


def echelon(rows):
    """The reduced rows, as fractions, and the led columns."""
    left = [[Fraction(entry) for entry in row] for row in rows]
    done = []
    leads = []
    width = len(left[0]) if left else 0
    for column in range(width):
        lead = next((row for row in left if row[column] != 0), None)
        if lead is None:
            continue
        left.remove(lead)
        lead = [entry / lead[column] for entry in lead]
        left = [[x - row[column] * y for x, y in zip(row, lead)] for row in left]
        done = [[x - row[column] * y for x, y in zip(row, lead)] for row in done]
        done.append(lead)
        leads.append(column)
    return done, leads


def rank(rows):
    return len(echelon(rows)[1])


def led_columns(rows, width):
    """The led columns by the words of the document: cut behind them and ahead of them."""
    return [
        column for column in range(width)
        if rank([row[:column + 1] for row in rows]) > rank([row[:column] for row in rows])
    ]


def determinant(table):
    """The determinant by its definition."""
    total = 0
    for order in itertools.permutations(range(len(table))):
        sign = 1
        for one, other in itertools.combinations(order, 2):
            if one > other:
                sign = -sign
        term = sign
        for row, column in zip(table, order):
            term *= row[column]
        total += term
    return total


def is_square_sum(table):
    """Whether no determinant of a part with equal rows and columns is below 0."""
    return all(
        determinant([[table[i][j] for j in part] for i in part]) >= 0
        for part in subsets(range(len(table)))
    )


def full_count(many, space):
    if space == 1:
        return many - 1
    return 0 if many == 1 else 2 * many - 3


def ends(rods):
    return tuple(sorted({pin for rod in rods for pin in rod}))


@functools.lru_cache(maxsize=None)
def is_sparse(rods, space):
    """Whether a lot of rods is sparse: each lot within it is asked, by its pins."""
    for lot in subsets(ends(rods)):
        within = [rod for rod in rods if rod[0] in lot and rod[1] in lot]
        if within and len(within) > full_count(len(ends(within)), space):
            return False
    return True


def is_sparse_by_lots(rods, space):
    """The same, asked of all lots of rods; for few rods only."""
    return all(len(lot) <= full_count(len(ends(lot)), space) for lot in subsets(rods) if lot)


def greatest_sparse(rods, space):
    """A sparse lot to which no other rod can be added."""
    kept = ()
    for rod in rods:
        if is_sparse(kept + (rod,), space):
            kept = kept + (rod,)
    return kept


def count_rank(frame, space):
    return len(greatest_sparse(frame.rods, space))


def count_rank_by_lots(frame, space):
    """The greatest number of rods of all sparse lots; for few rods only."""
    return max(len(lot) for lot in subsets(frame.rods) if is_sparse_by_lots(lot, space))


def partings(values):
    """All ways to part some values into lots."""
    if not values:
        yield ()
        return
    first, rest = values[0], values[1:]
    for others in subsets(rest):
        left = tuple(value for value in rest if value not in others)
        for parting in partings(left):
            yield tuple(sorted(((first, *others),) + parting))


def parting_sum(lots, space):
    return sum(full_count(len(ends(lot)), space) for lot in lots)


def is_firm(frame, space):
    return count_rank(frame, space) == full_count(len(frame.pins), space)


def blocks(frame, space):
    """The lots of two or more pins with a firm part that lie in no other such lot."""
    firm = [
        lot for lot in subsets(frame.pins)
        if len(lot) >= 2 and is_firm(frame.part(lot), space)
    ]
    return tuple(sorted(
        lot for lot in firm
        if not any(set(lot) < set(other) for other in firm)
    ))


def circuits(frame, space):
    """All circuits among the rods of a frame; for few rods only."""
    found = []
    for lot in subsets(frame.rods):
        if not is_sparse(lot, space):
            if all(is_sparse(tuple(r for r in lot if r != rod), space) for rod in lot):
                found.append(lot)
    return found


def is_circuit_lot(rods, space):
    return not is_sparse(rods, space) and all(
        is_sparse(tuple(other for other in rods if other != rod), space) for rod in rods
    )


def spare_rods(frame, space):
    whole = count_rank(frame, space)
    return tuple(rod for rod in frame.rods if count_rank(frame.without_rod(*rod), space) == whole)


def bearing_lots(frame, space):
    """The bearing lots, by all circuits."""
    found = circuits(frame, space)
    lots = []
    for rod in frame.rods:
        borne = {rod}.union(*[circuit for circuit in found if rod in circuit])
        lots.append(tuple(sorted(borne)))
    return tuple(sorted(set(lots)))


def pieces(frame, lot):
    """The pieces without the pins of a lot, by joining the pins of each rod."""
    groups = [{pin} for pin in frame.pins if pin not in lot]
    for one, other in frame.rods:
        if one not in lot and other not in lot:
            touched = [group for group in groups if one in group or other in group]
            groups = [group for group in groups if group not in touched]
            groups.append(set().union(*touched))
    return tuple(sorted(tuple(sorted(group)) for group in groups))
