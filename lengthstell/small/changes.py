"""Small changes of the lengths of rods: what makes them, what bars them, and what shows."""

from math import gcd

from lengthstell.base.elimination import divided
from lengthstell.base.rows import solution
from lengthstell.base.words import has_digits, is_integer
from lengthstell.errors import InvalidOperation, InvalidPlacing, InvalidRod, Refused
from lengthstell.frame.checks import check_frame, check_rod
from lengthstell.place.checks import are_spots, are_weights, check_placing, space_in
from lengthstell.place.placings import balances, is_balance, pace_of, rod_rows, told_by_pins

MAX_DIGITS = 140


def change_paper(frame, placing, change):
    """Any paper of a change: velocities that make it, or weights in balance that bar it."""
    _check_placing(frame, placing)
    _check_change(frame, change)
    space = space_in(placing)
    if len(frame.rods) == 0:
        return ("velocities", {pin: (0,) * space for pin in frame.pins}, 1)
    found = solution(rod_rows(frame, placing), tuple([change[rod] for rod in frame.rods]))
    if found is not None:
        values, scale = found
        return ("velocities", told_by_pins(frame.pins, values, space), scale)
    barring = [weights for weights in balances(frame, placing) if _sum_over(weights, change) != 0]
    return ("balance", barring[0])


def is_change_paper(frame, placing, change, value):
    """Whether the value is a paper of the change."""
    _check_placing(frame, placing)
    _check_change(frame, change)
    if not isinstance(value, tuple) or len(value) not in (2, 3):
        return False
    if len(value) == 2:
        return value[0] == "balance" and _does_bar(frame, placing, change, value[1])
    return value[0] == "velocities" and _does_make(frame, placing, change, value[1], value[2])


def shows(frame, placing, rod):
    """Whether some weights in balance are not 0 at a rod."""
    _check_placing(frame, placing)
    check_rod(frame, rod)
    return any([weights[rod] != 0 for weights in balances(frame, placing)])


def proportion(frame, placing, one, other):
    """The proportion of two rods that are mistaken for one another, or None."""
    _check_placing(frame, placing)
    _check_two_rods(frame, one, other)
    found = balances(frame, placing)
    first = _direction([weights[one] for weights in found])
    second = _direction([weights[other] for weights in found])
    if first is None or first != second:
        return None
    for weights in found:
        if weights[one] != 0:
            top, bottom = _lowest(weights[other], weights[one])
            return (bottom, top)
    return None


def mistaken(frame, placing):
    """All lots of two or more rods that are mistaken for one another and for no further rod."""
    _check_placing(frame, placing)
    found = balances(frame, placing)
    lots = {}
    for rod in frame.rods:
        direction = _direction([weights[rod] for weights in found])
        if direction is not None:
            lots[direction] = lots.get(direction, ()) + (rod,)
    return tuple(sorted([lot for lot in lots.values() if len(lot) >= 2]))


def answer_pace(frame, placing, driven, watched):
    """The change of a watched rod, as a fraction, where another rod is driven with the change 1."""
    _check_placing(frame, placing)
    _check_two_rods(frame, driven, watched)
    # Weights in balance of which none is a sum of multiples of others: the rods less the rank.
    found = balances(frame, placing)
    if len(found) != 1:
        raise Refused(("many", len(found)))
    weights = found[0]
    if weights[watched] == 0:
        raise Refused(("weight", watched))
    return _lowest(-weights[driven], weights[watched])


def _check_placing(frame, placing):
    """Refuses what is no frame, and what is no placing of it with short integers."""
    check_frame(frame)
    check_placing(frame, placing)
    for spot in placing.values():
        if not all([has_digits(number, MAX_DIGITS) for number in spot]):
            raise InvalidPlacing("the integers of the placing are too long")


def _check_change(frame, change):
    if not are_weights(frame.rods, change) or not _are_short(change):
        raise InvalidOperation("this is no change of the frame")


def _are_short(change):
    return all([has_digits(number, MAX_DIGITS) for number in change.values()])


def _check_two_rods(frame, one, other):
    check_rod(frame, one)
    check_rod(frame, other)
    if one == other:
        raise InvalidRod("both rods are the same")


def _sum_over(weights, change):
    """The sum of the weight times the change over all rods."""
    return sum([weights[rod] * change[rod] for rod in change])


def _does_bar(frame, placing, change, value):
    return is_balance(frame, placing, value) and _sum_over(value, change) != 0


def _does_make(frame, placing, change, value, scale):
    """Whether velocities with a scale make the change."""
    if not are_spots(frame.pins, value, space_in(placing)) or not is_integer(scale) or scale < 1:
        return False
    return all([pace_of(rod, placing, value) == scale * change[rod] for rod in frame.rods])


def _direction(entries):
    """The one of all multiples of some integers that is cleared and begins above 0, or None."""
    row = divided(entries)
    for entry in row:
        if entry != 0:
            return row if entry > 0 else tuple([-other for other in row])
    return None


def _lowest(top, bottom):
    """A fraction in lowest terms with a bottom above 0."""
    common = gcd(top, bottom)
    if bottom < 0:
        common = -common
    return (top // common, bottom // common)
