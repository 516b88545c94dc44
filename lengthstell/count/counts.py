"""Counts of rods: the count rank, and what shows that rods are sparse or not."""

from lengthstell.base.fullness import full_count
from lengthstell.count.pebbling import clear_pins, ends_of, played
from lengthstell.frame.checks import check_frame, check_space
from lengthstell.frame.frames import is_lot_of, rods_within


def count_rank(frame, *, space=2):
    """The greatest number of rods of a sparse lot."""
    check_frame(frame)
    check_space(space)
    tails, _ = played(frame.rods, space)
    return len(tails)


def is_sparse(frame, *, space=2):
    """Whether all rods of the frame together are sparse."""
    return count_rank(frame, space=space) == len(frame.rods)


def is_firm(frame, *, space=2):
    """Whether the count rank is the full count of the pins."""
    return count_rank(frame, space=space) == full_count(len(frame.pins), space)


def pebbles(frame, *, space=2):
    """Any pebbles of the frame, or None."""
    check_frame(frame)
    check_space(space)
    tails = {}
    pairs = []
    for rod in frame.rods:
        if not clear_pins(tails, rod, space):
            return None
        pairs.append((rod, {ahead: tails[ahead] for ahead in tails}))
        tails[rod] = rod[0]
    return tuple(pairs)


def is_pebbles(frame, value, *, space=2):
    """Whether the value is pebbles of the frame."""
    check_frame(frame)
    check_space(space)
    if not isinstance(value, tuple) or len(value) != len(frame.rods):
        return False
    ahead = []
    for pair in value:
        if not isinstance(pair, tuple) or len(pair) != 2:
            return False
        rod, tails = pair
        if rod not in frame.rods or rod in ahead or not _are_tails(rod, ahead, tails, space):
            return False
        ahead.append(rod)
    return True


def crowd(frame, *, space=2):
    """Any crowd of the frame, or None."""
    check_frame(frame)
    check_space(space)
    _, circuits = played(frame.rods, space)
    for rod in circuits:
        return ends_of(circuits[rod])
    return None


def is_crowd(frame, value, *, space=2):
    """Whether the value is a crowd of the frame."""
    check_frame(frame)
    check_space(space)
    if not is_lot_of(frame.pins, value) or value == ():
        return False
    return len(rods_within(frame.rods, value)) > full_count(len(value), space)


def _are_tails(rod, ahead, value, space):
    """Whether the value gives the rods ahead tails that leave both pins of the rod free."""
    if not isinstance(value, dict) or len(value) != len(ahead):
        return False
    if not all([other in value and value[other] in other for other in ahead]):
        return False
    pins = [value[other] for other in ahead]
    if rod[0] in pins or rod[1] in pins:
        return False
    return all([pins.count(pin) <= space for pin in pins])
