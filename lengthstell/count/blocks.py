"""Blocks, partings, spare rods and circuits of frames."""

from lengthstell.base.fullness import full_count
from lengthstell.base.words import is_ascending, is_lot_among
from lengthstell.count.pebbling import clear_pins, ends_of, played
from lengthstell.errors import InvalidOperation
from lengthstell.frame.checks import check_frame, check_rod, check_space
from lengthstell.frame.frames import Frame, pair_of, pairs_among, rods_within


def blocks(frame, *, space=2):
    """The ascending tuple of all blocks."""
    check_frame(frame)
    check_space(space)
    return _blocks_of(frame, space)


def parting(frame, *, space=2):
    """Any parting of all rods that has the least sum: the rods of each block are a lot."""
    check_frame(frame)
    check_space(space)
    lots = [rods_within(frame.rods, block) for block in _blocks_of(frame, space)]
    return tuple(sorted(lots))


def is_parting(frame, value, *, space=2):
    """Whether the value is a parting of all rods that has the least sum."""
    check_frame(frame)
    check_space(space)
    if not are_parted(frame.rods, value):
        return False
    tails, _ = played(frame.rods, space)
    return sum_of_lots(value, space) == len(tails)


def parting_sum(frame, lots, *, space=2):
    """The sum of a parting of some rods."""
    check_frame(frame)
    if not _is_some_parting(frame.rods, lots):
        raise InvalidOperation("this is no parting of some rods of the frame")
    check_space(space)
    return sum_of_lots(lots, space)


def spare_rods(frame, *, space=2):
    """The lot of all spare rods."""
    check_frame(frame)
    check_space(space)
    # Each rod that is in some circuit is in one of those that close a greatest sparse lot.
    _, circuits = played(frame.rods, space)
    in_circuits = [rod for circuit in circuits.values() for rod in circuit]
    return tuple([rod for rod in frame.rods if rod in in_circuits])


def bearing_lots(frame, *, space=2):
    """The ascending tuple of all bearing lots."""
    check_frame(frame)
    check_space(space)
    lots = [(rod,) for rod in frame.rods]
    # Rods bear one another exactly if a chain of circuits that close one greatest
    # sparse lot, each with a rod in common with the next one, leads between them.
    _, circuits = played(frame.rods, space)
    for circuit in circuits.values():
        lots = _joined(lots, circuit)
    return tuple(sorted(lots))


def circuit_with(frame, rod, *, space=2):
    """The rods of any circuit that has the rod, or None."""
    check_frame(frame)
    check_rod(frame, rod)
    check_space(space)
    return _circuit_of(frame.rods, rod, space)


def is_circuit(frame, *, space=2):
    """Whether all rods together are a circuit, and have all pins."""
    check_frame(frame)
    check_space(space)
    # A frame without rods is refused here, too: it has a pin, but no ends of rods.
    if ends_of(frame.rods) != frame.pins:
        return False
    return _circuit_of(frame.rods, frame.rods[0], space) == frame.rods


def filled(frame, *, space=2):
    """The frame with each pair that lies in a block as a rod."""
    check_frame(frame)
    check_space(space)
    return Frame(frame.pins, _filled_rods(frame, space))


def are_parted(rods, value):
    """Whether the value is a parting of all of some rods."""
    return _is_some_parting(rods, value) and sum([len(lot) for lot in value]) == len(rods)


def sum_of_lots(lots, space):
    """The sum of the full counts of the pins of some lots of rods."""
    return sum([full_count(len(ends_of(lot)), space) for lot in lots])


def _filled_rods(frame, space):
    """All pairs with which the count rank is the same, ascending; the rods are among them."""
    tails, _ = played(frame.rods, space)
    found = []
    for pair in pairs_among(frame.pins):
        if not clear_pins(tails, pair, space):
            found.append(pair)
    return tuple(found)


def _blocks_of(frame, space):
    """The blocks: in the filled frame all pins of a block have rods to each other."""
    rods = _filled_rods(frame, space)
    found = []
    for rod in rods:
        block = _block_around(frame.pins, rods, rod)
        if block not in found:
            found.append(block)
    return tuple(sorted(found))


def _block_around(pins, rods, rod):
    """The pins of a rod of a filled frame, and all that have rods to both of them."""
    one, other = rod
    return tuple([
        pin for pin in pins
        if pin in rod or (pair_of(pin, one) in rods and pair_of(pin, other) in rods)
    ])


def _is_some_parting(rods, value):
    """Whether the value is a parting of some of the rods."""
    if not isinstance(value, tuple) or not all([is_lot_among(rods, lot) and lot != () for lot in value]):
        return False
    told = [rod for lot in value for rod in lot]
    return is_ascending(value) and len(set(told)) == len(told)


def _joined(lots, circuit):
    """The lots, of which those that have rods of the circuit are made one."""
    apart = [lot for lot in lots if not _have_common(lot, circuit)]
    together = [rod for lot in lots if _have_common(lot, circuit) for rod in lot]
    return apart + [tuple(sorted(together))]


def _have_common(lot, other):
    return any([rod in other for rod in lot])


def _circuit_of(rods, rod, space):
    """A circuit that has the rod, or None."""
    # The rod is tried last, so it closes the circuit if it is spare.
    ahead = [other for other in rods if other != rod]
    _, circuits = played(ahead + [rod], space)
    return circuits.get(rod)
