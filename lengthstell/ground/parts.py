"""Heads, parts and closed lots of just firm stands."""

from lengthstell.base.words import lots_by_length
from lengthstell.errors import Refused, UnknownName
from lengthstell.frame.checks import check_lot
from lengthstell.frame.frames import is_lot_of
from lengthstell.ground.bearing import are_ties_keyed, ends_of_tie, heads_of, pins_reached
from lengthstell.ground.stands import Stand, check_stand, check_tie


def heads(stand):
    """Any heads of the stand: for each tie the pin that bears it."""
    check_stand(stand)
    return heads_of(stand)


def are_heads(stand, value):
    """Whether the value is heads of the stand."""
    check_stand(stand)
    # Only just firm stands are judged.
    borne = heads_of(stand)
    if not are_ties_keyed(stand.ties, value) or len(value) != len(borne):
        return False
    if not all([value[tie] in ends_of_tie(tie) for tie in borne]):
        return False
    bearers = [value[tie] for tie in borne]
    return all([bearers.count(pin) == 2 for pin in stand.frame.pins])


def may_bear(stand):
    """The dict from the pins to all ties that they bear in some heads."""
    check_stand(stand)
    borne = heads_of(stand)
    return bearable_ties(borne, pins_reached(stand.frame.pins, borne))


def parts(stand):
    """All parts, each one behind all parts to which it leads."""
    check_stand(stand)
    return parts_in_order(reached_in(stand))


def part_of(stand, pin):
    """The index of the part that has a pin."""
    check_stand(stand)
    check_pin(stand, pin)
    return _index_of_part(reached_in(stand), pin)


def part_of_tie(stand, tie):
    """The index of the part of the pins that bear a tie."""
    check_stand(stand)
    check_tie(stand, tie)
    borne = heads_of(stand)
    return _index_of_part(pins_reached(stand.frame.pins, borne), borne[tie])


def led_to(stand, lot):
    """The lot of all pins of a lot, and of all pins to which one of these leads."""
    check_stand(stand)
    check_lot(stand.frame, lot)
    return _all_reached(reached_in(stand), lot)


def leading_to(stand, lot):
    """The lot of all pins of a lot, and of all pins that lead to one of these."""
    check_stand(stand)
    check_lot(stand.frame, lot)
    return all_reaching(reached_in(stand), lot)


def is_closed(stand, value):
    """Whether the value is a closed lot of pins."""
    check_stand(stand)
    return is_closed_lot(reached_in(stand), value)


def closed_lots(stand):
    """All closed lots, those with fewer pins first."""
    check_stand(stand)
    for lot in all_closed_lots(reached_in(stand)):
        yield lot


def below(stand, lot):
    """The stand that the pins of a closed lot make."""
    _check_closed(stand, lot)
    if lot == ():
        raise Refused(("empty",))
    slides = stand.slides
    return Stand(stand.frame.part(lot), {pin: slides[pin] for pin in lot if pin in slides})


def rest(stand, lot):
    """The stand that the other pins make, where the pins of a closed lot stand still."""
    _check_closed(stand, lot)
    others = tuple([pin for pin in stand.frame.pins if pin not in lot])
    if others == ():
        raise Refused(("empty",))
    many = {pin: _slides_on(stand, lot, pin) for pin in others}
    return Stand(stand.frame.part(others), {pin: many[pin] for pin in others if many[pin] > 0})


def check_pin(stand, pin):
    """Refuses what is no pin of the stand."""
    if pin not in stand.frame.pins:
        raise UnknownName(pin)


def reached_in(stand):
    """For each pin of a just firm stand the lot of it and all pins to which it leads."""
    return pins_reached(stand.frame.pins, heads_of(stand))


def bearable_ties(borne, reached):
    """For each pin all ties that it bears in some heads, ascending."""
    # A rod can be turned exactly if it is in a ring, so if its other end leads to the bearer, too.
    return {
        pin: tuple([tie for tie in borne if pin in ends_of_tie(tie) and borne[tie] in reached[pin]])
        for pin in reached
    }


def parts_in_order(reached):
    """The parts, each one behind all parts to which it leads."""
    left = sorted(set([part_with(reached, pin) for pin in reached]))
    ordered = []
    while len(left) > 0:
        lowest = lowest_parts(reached, left)
        ordered.append(lowest[0])
        left = [part for part in left if part != lowest[0]]
    return tuple(ordered)


def part_with(reached, pin):
    """The part of a pin: all pins to which it leads and that lead to it."""
    return tuple([other for other in reached[pin] if pin in reached[other]])


def lowest_parts(reached, some):
    """Those of some parts that lead to no other one of them."""
    return [
        part for part in some
        if not any([other != part and other[0] in reached[part[0]] for other in some])
    ]


def all_reaching(reached, lot):
    """The lot of all pins of a lot, and of all pins that lead to one of these."""
    return tuple([pin for pin in reached if any([other in lot for other in reached[pin]])])


def is_closed_lot(reached, value):
    """Whether the value is a lot of pins that lead to no others."""
    return is_lot_of(list(reached), value) and _all_reached(reached, value) == value


def all_closed_lots(reached):
    """All closed lots, those with fewer pins first, of as many pins in ascending order."""
    return [lot for lot in lots_by_length(list(reached)) if _all_reached(reached, lot) == lot]


def _all_reached(reached, lot):
    """The lot of all pins of a lot, and of all pins to which one of these leads."""
    return tuple([pin for pin in reached if any([pin in reached[other] for other in lot])])


def _index_of_part(reached, pin):
    return parts_in_order(reached).index(part_with(reached, pin))


def _check_closed(stand, lot):
    """Refuses all but a closed lot of a just firm stand."""
    check_stand(stand)
    check_lot(stand.frame, lot)
    reached = reached_in(stand)
    for pin in lot:
        for other in reached[pin]:
            if other not in lot:
                raise Refused(("open", (pin, other)))


def _slides_on(stand, lot, pin):
    """The slides of a pin of the rest: its own ones, and one for each rod to a pin of the lot."""
    return stand.slides.get(pin, 0) + len([other for other in stand.frame.neighbours(pin) if other in lot])
