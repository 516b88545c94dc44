"""The game of pebbles, by which rods are counted.

The *tails* are a dict from some rods, which are sparse, to one pin of each: its
tail. No pin is the tail of more rods than the space tells. A rod leads from its
tail to its other pin. A further rod keeps the rods sparse exactly if the tails
can be moved so that none is left at both of its pins.
"""


def played(rods, space):
    """The tails of a greatest sparse lot of the rods, and the circuits of the others.

    The rods are tried in the given order. The circuits are a dict from each rod
    that was not sparse with those ahead of it to the one circuit that it makes
    with rods of the sparse lot.
    """
    tails = {}
    circuits = {}
    for rod in rods:
        if clear_pins(tails, rod, space):
            tails[rod] = rod[0]
        else:
            circuits[rod] = _circuit_closed_by(tails, rod)
    return tails, circuits


def clear_pins(tails, rod, space):
    """Moves tails away from both pins of a rod; whether none is left there."""
    first = _clear_pin(tails, rod[0], rod, space)
    return _clear_pin(tails, rod[1], rod, space) and first


def makes_room(tails, pin, kept, space):
    """Moves a tail away from a pin if it bears as many as it can; whether it can bear one more.

    The tail goes to none of the pins that are kept.
    """
    return _load(tails, pin) < space or _move_tail(tails, pin, kept, space)


def ends_of(rods):
    """The lot of the pins of some rods."""
    return tuple(sorted({pin for rod in rods for pin in rod}))


def _clear_pin(tails, pin, kept, space):
    while _load(tails, pin) > 0:
        if not _move_tail(tails, pin, kept, space):
            return False
    return True


def _load(tails, pin):
    """The number of the rods whose tail is the pin."""
    return list(tails.values()).count(pin)


def _other_end(rod, pin):
    if rod[0] == pin:
        return rod[1]
    return rod[0]


def _move_tail(tails, pin, kept, space):
    """Moves one tail away from a pin, if this can be done; whether it is done."""
    ways = _ways_from(tails, pin)
    end = _free_end(tails, ways, kept, space)
    if end is None:
        return False
    _turn_way(tails, ways, end)
    return True


def _free_end(tails, ways, kept, space):
    """The first pin with a way to it that is not kept and can bear one tail more, or None."""
    for end in ways:
        if end not in kept and _load(tails, end) < space:
            return end
    return None


def _ways_from(tails, pin):
    """The dict from all pins to which the rods lead from a pin to the last rod of a way there."""
    ways = {pin: None}
    reached = [pin]
    while len(reached) > 0:
        here = reached.pop(0)
        for rod in tails:
            there = _other_end(rod, here)
            if tails[rod] == here and there not in ways:
                ways[there] = rod
                reached.append(there)
    return ways


def _turn_way(tails, ways, end):
    """Turns each rod of the way to a pin, so that the way leads back from there."""
    pin = end
    while ways[pin] is not None:
        rod = ways[pin]
        tails[rod] = pin
        pin = _other_end(rod, pin)


def _circuit_closed_by(tails, rod):
    """The circuit that a rod makes with the rods of the tails, from which it is not free.

    When no more tails can be moved away from its pins, the pins to which these
    lead have as many rods among them as sparse rods can have, and no fewer pins
    that the rod joins have.
    """
    around = list(_ways_from(tails, rod[0])) + list(_ways_from(tails, rod[1]))
    inner = [other for other in tails if other[0] in around and other[1] in around]
    return tuple(sorted(inner + [rod]))
