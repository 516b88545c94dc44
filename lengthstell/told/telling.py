"""Whether its lengths tell a frame, by counting alone.

Lots of pins are told by integers here, in which the bit at the index of a pin
says whether it is in the lot.
"""

from lengthstell.count.pebbling import played


def depth_of(many, space):
    """The rank that the table of the weights of a told frame of so many pins has."""
    return max(0, many - 1 - space)


def is_told_by_counts(pins, rods, space):
    """Whether a frame with these pins and rods is told."""
    if len(pins) <= space + 1:
        return 2 * len(rods) == len(pins) * (len(pins) - 1)
    if is_cut_somewhere(pins, rods, space):
        return False
    return space == 1 or _are_firm_and_spare(pins, rods)


def is_cut_somewhere(pins, rods, space):
    """Whether some lot of just as many pins as the space tells cuts the frame."""
    around = _lots_around(pins, rods)
    whole = (1 << len(pins)) - 1
    for lot in _lots_of_size(len(pins), space):
        if not _hang_together(around, whole - lot):
            return True
    return False


def _are_firm_and_spare(pins, rods):
    """Whether the frame is firm in the plane, and each of its rods is spare."""
    if len(rods) < 2 * len(pins) - 2:
        return False
    tails, circuits = played(rods, 2)
    if len(tails) < 2 * len(pins) - 3:
        return False
    in_circuits = {rod: True for circuit in circuits.values() for rod in circuit}
    return len(in_circuits) == len(rods)


def _lots_around(pins, rods):
    """For each pin the lot of the pins to which a rod leads from it."""
    at = {pin: index for index, pin in enumerate(pins)}
    around = [0] * len(pins)
    for one, other in rods:
        around[at[one]] += 1 << at[other]
        around[at[other]] += 1 << at[one]
    return around


def _lots_of_size(many, size):
    """All lots of just so many of the pins."""
    lots = [0]
    for _ in range(size):
        lots = [lot + (1 << at) for lot in lots for at in range(many) if lot < 1 << at]
    return lots


def _hang_together(around, left):
    """Whether the pins of a lot are in one piece of the frame of these pins; none are."""
    fresh = left & -left
    reached = fresh
    while fresh > 0:
        at = fresh.bit_length() - 1
        further = around[at] & (left ^ reached)
        reached += further
        fresh += further - (1 << at)
    return reached == left
