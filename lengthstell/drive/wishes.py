"""Wished moves: the ties that make them, the pins that bar them, and ties that are exchanged."""

from lengthstell.base.words import lots_by_length
from lengthstell.drive.drivers import pins_moved
from lengthstell.errors import InvalidOperation, Refused
from lengthstell.frame.checks import check_lot
from lengthstell.frame.frames import pair_of
from lengthstell.ground.bearing import ends_of_tie, heads_of, is_tie_lot, pins_reached
from lengthstell.ground.parts import (
    all_closed_lots,
    bearable_ties,
    check_pin,
    is_closed_lot,
    lowest_parts,
    part_with,
    parts_in_order,
    reached_in,
)
from lengthstell.ground.stands import check_stand, is_firm_stand, stand_parting


def movers(stand, pin):
    """The lot of all ties that move the pin."""
    check_stand(stand)
    check_pin(stand, pin)
    borne = heads_of(stand)
    led = pins_reached(stand.frame.pins, borne)[pin]
    return tuple([tie for tie in borne if borne[tie] in led])


def moved_lots(stand):
    """All moved lots, those with fewer pins first."""
    check_stand(stand)
    for lot in _all_moved_lots(stand):
        yield lot


def drivers_of(stand, lot):
    """The fewest ties that move just the pins of a lot, the first ones of its lowest parts, or None."""
    check_stand(stand)
    check_lot(stand.frame, lot)
    borne = heads_of(stand)
    reached = pins_reached(stand.frame.pins, borne)
    if not is_closed_lot(reached, _others(stand, lot)):
        return None
    lowest = lowest_parts(reached, [part for part in parts_in_order(reached) if part[0] in lot])
    return tuple(sorted([_first_tie(borne, part) for part in lowest]))


def barred_move(stand, lot):
    """Any pair that bars a lot, of a pin that is not in it but moves with one in it, or None."""
    check_stand(stand)
    check_lot(stand.frame, lot)
    borne = heads_of(stand)
    for tie in borne:
        for pin in ends_of_tie(tie):
            if borne[tie] not in lot and pin in lot:
                return (borne[tie], pin)
    return None


def is_barred_move(stand, lot, value):
    """Whether the value is a pair that bars a lot."""
    check_stand(stand)
    check_lot(stand.frame, lot)
    borne = heads_of(stand)
    if not isinstance(value, tuple) or len(value) != 2:
        return False
    outer, inner = value
    if outer not in stand.frame.pins or outer in lot or inner not in lot:
        return False
    reached = pins_reached(stand.frame.pins, borne)
    if inner in part_with(reached, outer):
        return True
    return ("rod",) + pair_of(outer, inner) in bearable_ties(borne, reached)[outer]


def fewest_drivers(stand, wished):
    """Any ties, as few as can be, that move all pins of a lot."""
    check_stand(stand)
    check_lot(stand.frame, wished)
    borne = heads_of(stand)
    some = _fewest_parts(pins_reached(stand.frame.pins, borne), wished)
    return tuple(sorted([_first_tie(borne, part) for part in some]))


def are_fewest_drivers(stand, wished, value):
    """Whether the value is ties, as few as can be, that move all pins of a lot."""
    check_stand(stand)
    check_lot(stand.frame, wished)
    fewest = len(_fewest_parts(reached_in(stand), wished))
    if not is_tie_lot(stand.ties, value) or len(value) != fewest:
        return False
    going = pins_moved(stand, value)
    return all([pin in going for pin in wished])


def exchanged(stand, tie, new):
    """The stand with a tie taken out and another one put in."""
    check_stand(stand)
    bare = stand.without_tie(tie)
    further = _tie_wanted(stand, bare, new)
    if further is None:
        raise InvalidOperation("this is neither a pair that is no rod nor a pin with fewer than two slides")
    heads_of(stand)
    found = bare.with_tie(further)
    # It has as many ties as the stand, so it is just firm exactly if it is firm.
    if not is_firm_stand(found):
        raise Refused(("loose", stand_parting(found)))
    return found


def _tie_wanted(stand, bare, new):
    """The tie that a pair or a pin tells, to be put in where another tie is taken out, or None."""
    if new in stand.frame.missing:
        return ("rod",) + new
    if new in bare.inner:
        return ("slide", new, bare.slides.get(new, 0))
    return None


def _all_moved_lots(stand):
    """What the closed lots leave of the pins, the shorter lots first."""
    rests = [_others(stand, lot) for lot in all_closed_lots(reached_in(stand))]
    return [lot for _, lot in sorted([(len(lot), lot) for lot in rests])]


def _others(stand, lot):
    """The lot of all pins that are not in a lot."""
    return tuple([pin for pin in stand.frame.pins if pin not in lot])


def _first_tie(borne, part):
    """The first of the ties that belong to a part."""
    return [tie for tie in borne if borne[tie] in part][0]


def _fewest_parts(reached, wished):
    """As few parts as can be, such that each wished pin is in one of them or leads to one.

    A part to which another one leads can stand for that one, so only the lowest
    ones are tried.
    """
    lowest = lowest_parts(reached, parts_in_order(reached))
    enough = [
        some for some in lots_by_length(lowest)
        if all([any([part[0] in reached[pin] for part in some]) for pin in wished])
    ]
    return enough[0]
