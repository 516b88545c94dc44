"""Ties that are driven: which pins they move, and how fast."""

from math import gcd

from lengthstell.base.elimination import product_of
from lengthstell.base.rows import solution
from lengthstell.base.words import has_digits, is_integer
from lengthstell.errors import InvalidOperation, Refused
from lengthstell.ground.bearing import are_ties_keyed, heads_of, is_tie_lot, pins_reached
from lengthstell.ground.parts import all_reaching, check_pin, is_closed_lot
from lengthstell.ground.places import check_place, is_firm_at_place, is_place, place_tried, rows_of_ties
from lengthstell.ground.stands import check_stand
from lengthstell.place.checks import are_spots
from lengthstell.place.placings import pace_of, told_by_pins

MOST_DIGITS = 120


def moved(stand, driven):
    """The lot of all pins that are moved by a lot of ties."""
    _check_driven(stand, driven)
    return pins_moved(stand, driven)


def still(stand, driven):
    """The lot of all pins that are not moved by a lot of ties."""
    _check_driven(stand, driven)
    going = pins_moved(stand, driven)
    return tuple([pin for pin in stand.frame.pins if pin not in going])


def is_still_lot(stand, driven, value):
    """Whether the value is a closed lot to none of whose pins a driven tie belongs."""
    _check_driven(stand, driven)
    borne = heads_of(stand)
    if not is_closed_lot(pins_reached(stand.frame.pins, borne), value):
        return False
    # A closed lot has whole parts, so one pin that bears the tie is enough.
    return not any([borne[tie] in value for tie in driven])


def velocities(stand, place, paces):
    """The pair (velocities, scale) with which each tie has its pace times the scale."""
    _check_short(stand, place, paces)
    return _velocities_at(stand, place, paces)


def pair_pace(stand, place, paces, one, other):
    """The pace at which half the square of two pins changes, as a fraction."""
    _check_short(stand, place, paces)
    check_pin(stand, one)
    check_pin(stand, other)
    found, scale = _velocities_at(stand, place, paces)
    top = pace_of((one, other), place[0], found)
    common = gcd(top, scale)
    return (top // common, scale // common)


def driven_paper(stand, driven):
    """Any pair (place, velocities) in which just the driven ties have paces, and all moved pins move."""
    _check_driven(stand, driven)
    going = pins_moved(stand, driven)
    attempt = 0
    while True:
        place = place_tried(stand, attempt)
        if is_firm_at_place(stand, place):
            paces = {tie: at + 1 for at, tie in enumerate(driven)}
            found, _ = _velocities_made(stand, place, paces)
            if all([found[pin] != (0, 0) for pin in going]):
                return (place, found)
        attempt += 1


def is_driven_paper(stand, driven, value):
    """Whether the value is a firm place with velocities that show which pins are moved."""
    _check_driven(stand, driven)
    going = pins_moved(stand, driven)
    if not isinstance(value, tuple) or len(value) != 2:
        return False
    place, found = value
    if not is_place(stand, place) or not are_spots(stand.frame.pins, found, 2):
        return False
    if not all([found[pin] != (0, 0) for pin in going]) or not is_firm_at_place(stand, place):
        return False
    row = _row_of(stand, found)
    paces = [product_of(each, row) for each in rows_of_ties(stand, place)]
    return all([(pace != 0) == (tie in driven) for tie, pace in zip(stand.ties, paces)])


def check_tie_lot(stand, lot):
    """Refuses what is no lot of ties of the stand."""
    if not is_tie_lot(stand.ties, lot):
        raise InvalidOperation("this is no lot of ties of the stand")


def pins_moved(stand, driven):
    """The lot of all pins of a just firm stand that are moved by a lot of ties."""
    borne = heads_of(stand)
    bearers = [borne[tie] for tie in driven]
    return all_reaching(pins_reached(stand.frame.pins, borne), bearers)


def _check_driven(stand, driven):
    check_stand(stand)
    check_tie_lot(stand, driven)


def _check_short(stand, place, paces):
    """Refuses what is no stand, no place of it, and no paces, with integers of at most 120 digits."""
    check_stand(stand)
    check_place(stand, place, MOST_DIGITS)
    if not _are_paces(stand, paces):
        raise InvalidOperation("the paces are no dict from some ties to short integers")


def _are_paces(stand, value):
    """Whether the value is a dict from some ties to short integers."""
    if not are_ties_keyed(stand.ties, value):
        return False
    return all([is_integer(pace) and has_digits(pace, MOST_DIGITS) for pace in value.values()])


def _velocities_at(stand, place, paces):
    """The velocities with some paces; refuses stands that are not just firm, and special places."""
    heads_of(stand)
    if not is_firm_at_place(stand, place):
        raise Refused(("special",))
    return _velocities_made(stand, place, paces)


def _velocities_made(stand, place, paces):
    """The velocities with some paces in a firm place, and the least scale."""
    aims = tuple([paces.get(tie, 0) for tie in stand.ties])
    row, scale = solution(rows_of_ties(stand, place), aims)
    return told_by_pins(stand.frame.pins, row, 2), scale


def _row_of(stand, found):
    """Velocities as a row, in the order of the pins."""
    return [number for pin in stand.frame.pins for number in found[pin]]
