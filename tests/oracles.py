"""Slow answers, reckoned as the document words them, to compare the package with."""

import functools
import itertools
from fractions import Fraction
from math import isqrt

from lengthstell.frame.frames import Frame
from tests.examples import subsets


def echelon(rows):
    """The reduced rows, as fractions, and the led columns."""
    left = [[Fraction(entry) for entry in row] for row in rows]
    done = []
    leads = []
    width = len(left[0]) if left else 0
    for column in range(width):
        lead = next((row for row in left if row[column] != 0), None)
        if lead is None:
            continue
        left.remove(lead)
        lead = [entry / lead[column] for entry in lead]
        left = [[x - row[column] * y for x, y in zip(row, lead)] for row in left]
        done = [[x - row[column] * y for x, y in zip(row, lead)] for row in done]
        done.append(lead)
        leads.append(column)
    return done, leads


def rank(rows):
    return len(echelon(rows)[1])


def led_columns(rows, width):
    """The led columns by the words of the document: cut behind them and ahead of them."""
    return [
        column for column in range(width)
        if rank([row[:column + 1] for row in rows]) > rank([row[:column] for row in rows])
    ]


def determinant(table):
    """The determinant by its definition."""
    total = 0
    for order in itertools.permutations(range(len(table))):
        sign = 1
        for one, other in itertools.combinations(order, 2):
            if one > other:
                sign = -sign
        term = sign
        for row, column in zip(table, order):
            term *= row[column]
        total += term
    return total


def is_square_sum(table):
    """Whether no determinant of a part with equal rows and columns is below 0."""
    return all(
        determinant([[table[i][j] for j in part] for i in part]) >= 0
        for part in subsets(range(len(table)))
    )


def full_count(many, space):
    if space == 1:
        return many - 1
    return 0 if many == 1 else 2 * many - 3


def ends(rods):
    return tuple(sorted({pin for rod in rods for pin in rod}))


@functools.lru_cache(maxsize=None)
def is_sparse(rods, space):
    """Whether a lot of rods is sparse: each lot within it is asked, by its pins."""
    for lot in subsets(ends(rods)):
        within = [rod for rod in rods if rod[0] in lot and rod[1] in lot]
        if within and len(within) > full_count(len(ends(within)), space):
            return False
    return True


def is_sparse_by_lots(rods, space):
    """The same, asked of all lots of rods; for few rods only."""
    return all(len(lot) <= full_count(len(ends(lot)), space) for lot in subsets(rods) if lot)


def greatest_sparse(rods, space):
    """A sparse lot to which no other rod can be added."""
    kept = ()
    for rod in rods:
        if is_sparse(kept + (rod,), space):
            kept = kept + (rod,)
    return kept


def count_rank(frame, space):
    return len(greatest_sparse(frame.rods, space))


def count_rank_by_lots(frame, space):
    """The greatest number of rods of all sparse lots; for few rods only."""
    return max(len(lot) for lot in subsets(frame.rods) if is_sparse_by_lots(lot, space))


def partings(values):
    """All ways to part some values into lots."""
    if not values:
        yield ()
        return
    first, rest = values[0], values[1:]
    for others in subsets(rest):
        left = tuple(value for value in rest if value not in others)
        for parting in partings(left):
            yield tuple(sorted(((first, *others),) + parting))


def parting_sum(lots, space):
    return sum(full_count(len(ends(lot)), space) for lot in lots)


def is_firm(frame, space):
    return count_rank(frame, space) == full_count(len(frame.pins), space)


def blocks(frame, space):
    """The lots of two or more pins with a firm part that lie in no other such lot."""
    firm = [
        lot for lot in subsets(frame.pins)
        if len(lot) >= 2 and is_firm(frame.part(lot), space)
    ]
    return tuple(sorted(
        lot for lot in firm
        if not any(set(lot) < set(other) for other in firm)
    ))


def circuits(frame, space):
    """All circuits among the rods of a frame; for few rods only."""
    found = []
    for lot in subsets(frame.rods):
        if not is_sparse(lot, space):
            if all(is_sparse(tuple(r for r in lot if r != rod), space) for rod in lot):
                found.append(lot)
    return found


def is_circuit_lot(rods, space):
    return not is_sparse(rods, space) and all(
        is_sparse(tuple(other for other in rods if other != rod), space) for rod in rods
    )


def spare_rods(frame, space):
    whole = count_rank(frame, space)
    return tuple(rod for rod in frame.rods if count_rank(frame.without_rod(*rod), space) == whole)


def bearing_lots(frame, space):
    """The bearing lots, by all circuits."""
    found = circuits(frame, space)
    lots = []
    for rod in frame.rods:
        borne = {rod}.union(*[circuit for circuit in found if rod in circuit])
        lots.append(tuple(sorted(borne)))
    return tuple(sorted(set(lots)))


def pieces(frame, lot):
    """The pieces without the pins of a lot, by joining the pins of each rod."""
    groups = [{pin} for pin in frame.pins if pin not in lot]
    for one, other in frame.rods:
        if one not in lot and other not in lot:
            touched = [group for group in groups if one in group or other in group]
            groups = [group for group in groups if group not in touched]
            groups.append(set().union(*touched))
    return tuple(sorted(tuple(sorted(group)) for group in groups))


def is_cut(frame, size):
    """Whether some lot of just so many pins leaves two pieces or more."""
    return any(len(pieces(frame, lot)) >= 2 for lot in itertools.combinations(frame.pins, size))


@functools.lru_cache(maxsize=None)
def _told(pins, rods, space):
    frame = Frame(pins, rods)
    if len(pins) <= space + 1:
        return len(rods) == len(list(itertools.combinations(pins, 2)))
    if is_cut(frame, space) or not is_firm(frame, space):
        return False
    return spare_rods(frame, space) == rods


def is_told(frame, space):
    """Whether the frame is told, by 0.16."""
    return _told(frame.pins, frame.rods, space)


def depth(frame, space):
    return max(0, len(frame.pins) - 1 - space)


def rod_rows(frame, placing):
    """The rows of the rods, by 0.10."""
    rows = []
    for one, other in frame.rods:
        row = []
        for pin in frame.pins:
            for x, y in zip(placing[one], placing[other]):
                row.append(x - y if pin == one else y - x if pin == other else 0)
        rows.append(row)
    return rows


def is_in_balance(frame, placing, weights):
    """Whether weights are in balance, by 0.11."""
    for pin in frame.pins:
        for place in range(len(placing[pin])):
            total = 0
            for rod in frame.rods:
                if pin in rod:
                    end = rod[0] if rod[1] == pin else rod[1]
                    total += weights[rod] * (placing[end][place] - placing[pin][place])
            if total != 0:
                return False
    return True


def weight_table(frame, weights):
    table = [[0] * len(frame.pins) for _ in frame.pins]
    for (one, other), weight in weights.items():
        i, j = frame.pins.index(one), frame.pins.index(other)
        table[i][j] -= weight
        table[j][i] -= weight
        table[i][i] += weight
        table[j][j] += weight
    return table


def square_sum_rank(table):
    """The rank of a table that is a sum of squares, None if it is none."""
    left = [[Fraction(entry) for entry in row] for row in table]
    found = 0
    while left:
        if any(row[at] < 0 for at, row in enumerate(left)):
            return None
        top = next((at for at, row in enumerate(left) if row[at] > 0), None)
        if top is None:
            return found if not any(any(row) for row in left) else None
        lead = left[top]
        left = [
            [entry - row[top] * lead[j] / lead[top] for j, entry in enumerate(row) if j != top]
            for i, row in enumerate(left) if i != top
        ]
        found += 1
    return found


def shows_told(frame, placing, weights, space):
    """Whether a placing and weights are a paper that the frame is told, by 0.15."""
    if list(placing) != list(frame.pins) or any(len(spot) != space for spot in placing.values()):
        return False
    if list(weights) != list(frame.rods) or not is_in_balance(frame, placing, weights):
        return False
    if rank(rod_rows(frame, placing)) != full_count(len(frame.pins), space):
        return False
    return square_sum_rank(weight_table(frame, weights)) == depth(frame, space)


def shows_not_told(frame, paper, space):
    """Whether a paper of one of the three other forms holds, by 6.5."""
    most = full_count(len(frame.pins), space)
    word, *parts = paper
    if word == "loose":
        return is_parting_of(frame.rods, parts[0]) and parting_sum(parts[0], space) < most
    if len(frame.pins) <= space + 1:
        return False
    if word == "needed":
        rods = tuple(rod for rod in frame.rods if rod != parts[0])
        return parts[0] in frame.rods and is_parting_of(rods, parts[1]) and parting_sum(parts[1], space) < most
    lot, side = parts
    beyond = set(frame.pins) - set(lot) - set(side)
    return (
        word == "cut" and is_plain_lot(lot, frame.pins) and is_plain_lot(side, frame.pins)
        and len(lot) == space and bool(side) and not set(lot) & set(side) and bool(beyond)
        and not any(set(rod) & set(side) and set(rod) & beyond for rod in frame.rods)
    )


def is_plain_lot(lot, pins):
    return lot == tuple(sorted(set(lot) & set(pins)))


def is_parting_of(rods, lots):
    if sorted(rod for lot in lots for rod in lot) != sorted(rods) or not all(lots):
        return False
    return lots == tuple(sorted(set(lots))) and all(lot == tuple(sorted(lot)) for lot in lots)


def are_right_rows(frame, rows, space):
    """Whether rows of integers are right rows, by 6.1: all determinants are asked."""
    width = depth(frame, space)
    if len(rows) != len(frame.pins) or any(len(row) != width for row in rows):
        return False
    by_pin = dict(zip(frame.pins, rows))
    for one, other in itertools.combinations(frame.pins, 2):
        if (one, other) not in frame.rods and sum(x * y for x, y in zip(by_pin[one], by_pin[other])) != 0:
            return False
    return all(rank(some) == width for some in itertools.combinations(rows, width))


def do_come_of(frame, rows, placing, weights, space):
    """Whether a placing and weights come of right rows, by 6.3: the factors are looked for."""
    spots = [placing[pin] for pin in frame.pins]
    if len(set(spots)) < len(spots) or any(len(spot) != space for spot in spots):
        return False
    if space == 2 and any(turn(*some) == 0 for some in itertools.combinations(spots, 3)):
        return False
    if depth(frame, space) == 0:
        return all(weight == 0 for weight in weights.values())
    # The factors are the numbers with which all these rows have the product 0.
    asked = [
        [row[place] * by for row, by in zip(rows, (1,) * len(rows) if at is None else [s[at] for s in spots])]
        for at in (None, *range(space)) for place in range(depth(frame, space))
    ]
    done, leads = echelon(asked)
    if len(leads) != len(rows) - 1:
        return False
    free = next(at for at in range(len(rows)) if at not in leads)
    factors = [Fraction(0)] * len(rows)
    factors[free] = Fraction(1)
    for lead, row in zip(leads, done):
        factors[lead] = -row[free]
    if 0 in factors:
        return False
    by_pin = dict(zip(frame.pins, zip(rows, factors)))
    scales = set()
    for (one, other), weight in weights.items():
        (row, factor), (against, by) = by_pin[one], by_pin[other]
        whole = -factor * by * sum(x * y for x, y in zip(row, against))
        if whole == 0 or weight == 0:
            if whole != weight:
                return False
        else:
            scales.add(weight / whole)
    return len(scales) <= 1 and all(are_integers_with(factors, scale) for scale in scales)


def are_integers_with(factors, scale):
    """Whether the factors, times the root of a scale, are integers."""
    top, bottom = isqrt(scale.numerator) if scale > 0 else 0, isqrt(scale.denominator)
    if Fraction(top, bottom) ** 2 != scale:
        return False
    return all((factor * top / bottom).denominator == 1 for factor in factors)


def turn(one, other, third):
    """0 exactly if three spots of the plane lie on a line."""
    return (other[0] - one[0]) * (third[1] - one[1]) - (other[1] - one[1]) * (third[0] - one[0])


def is_free_placing(frame, placing, space):
    """Whether a placing with spots of the space is free, by 5.3."""
    spots = list(placing.values())
    if list(placing) != list(frame.pins) or len(set(spots)) < len(spots):
        return False
    if any(len(spot) != space for spot in spots):
        return False
    if space == 2 and any(turn(*some) == 0 for some in itertools.combinations(spots, 3)):
        return False
    return rank(rod_rows(frame, placing)) == count_rank(frame, space)


def built(row):
    """The pins and rods that a build row makes, by 5.1."""
    pins, rods = set(row[0][1:]), {row[0][1:]}
    for word, pin, *others in row[1:]:
        assert pin not in pins and set(others) <= pins and len(set(others)) == len(others)
        assert others[0] < others[1] and len(others) == {"two": 2, "three": 3}[word]
        if word == "three":
            rods.remove(tuple(others[:2]))
        pins.add(pin)
        rods |= {tuple(sorted((pin, other))) for other in others}
    return tuple(sorted(pins)), tuple(sorted(rods))


def made_by_told_row(row):
    """The pins and rods of a told row, by 7.1."""
    assert row[0][0] == "full" and len(row[0]) == 5 and list(row[0][1:]) == sorted(set(row[0][1:]))
    pins, rods = set(row[0][1:]), set(itertools.combinations(row[0][1:], 2))
    for step in row[1:]:
        if step[0] == "rod":
            assert step[1] < step[2] and set(step[1:]) <= pins and step[1:] not in rods
            rods.add(step[1:])
        else:
            word, pin, one, other, third = step
            assert word == "three" and pin not in pins and third in pins - {one, other} and len(pins) <= 7
            rods.remove((one, other))
            rods |= {tuple(sorted((pin, end))) for end in (one, other, third)}
            pins.add(pin)
    return tuple(sorted(pins)), tuple(sorted(rods))


def nullspace(rows, width):
    """Fractions of which all rows that have the product 0 with the given ones are sums of multiples."""
    done, leads = echelon(rows)
    found = []
    for column in range(width):
        if column not in leads:
            entries = [Fraction(int(at == column)) for at in range(width)]
            for lead, row in zip(leads, done):
                entries[lead] = -row[column]
            found.append(entries)
    return found


def balances(frame, placing):
    """Fractions in balance, told by dicts, of which all are sums of multiples."""
    rows = rod_rows(frame, placing)
    columns = [list(column) for column in zip(*rows)]
    return [dict(zip(frame.rods, entries)) for entries in nullspace(columns, len(frame.rods))]


def least(lots):
    return tuple(sorted(lot for lot in lots if not any(set(other) < set(lot) for other in lots)))


def greatest(lots):
    return tuple(sorted(lot for lot in lots if not any(set(lot) < set(other) for other in lots)))


def with_rods(frame, lot):
    return Frame(frame.pins, tuple(sorted(frame.rods + tuple(lot))))


def without_rods(frame, lot):
    return Frame(frame.pins, tuple(rod for rod in frame.rods if rod not in lot))


def meeting_lots(lots):
    """The least meeting lots, by asking all lots of the pairs."""
    members = sorted({pair for lot in lots for pair in lot})
    return least([some for some in subsets(members) if all(set(some) & set(lot) for lot in lots)])
