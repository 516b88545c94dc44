"""Two-sums of frames, and the halves and leaves of circuits."""

from math import gcd

from lengthstell.count.blocks import is_circuit
from lengthstell.errors import InvalidOperation, Refused
from lengthstell.frame.checks import check_frame
from lengthstell.frame.cuts import cuts, sides
from lengthstell.frame.frames import Frame, is_lot_of
from lengthstell.place.checks import check_weights


def two_sum(one, other):
    """The frame of all pins and rods of two frames but their common rod."""
    check_frame(one)
    check_frame(other)
    return _summed(one, other, _common_rod(one, other))


def halves(frame, lot):
    """The pair of the halves of a circuit at two pins that cut it."""
    check_frame(frame)
    if not is_lot_of(frame.pins, lot) or len(lot) != 2:
        raise InvalidOperation("this is no lot of two pins of the frame")
    _check_circuit(frame)
    if len(sides(frame, lot)) < 2:
        raise Refused(("whole",))
    return _halves_at(frame, lot)


def leaves(frame):
    """The tuple of all leaves of a circuit."""
    check_frame(frame)
    _check_circuit(frame)
    left = [frame]
    found = []
    while len(left) > 0:
        part = left.pop()
        lots = cuts(part, 2)
        if len(lots) == 0:
            found.append((part.pins, part.rods))
        else:
            left.extend(list(_halves_at(part, lots[0])))
    return tuple([Frame(pins, rods) for pins, rods in sorted(found)])


def summed_weights(one, first, other, second):
    """The weights of the two-sum that come of weights of both frames."""
    check_frame(one)
    check_weights(one, first)
    check_frame(other)
    check_weights(other, second)
    rod = _common_rod(one, other)
    whole = _summed(one, other, rod)
    common = gcd(first[rod], second[rod])
    if common == 0:
        raise Refused(("nothing",))
    by_first = second[rod] // common
    by_second = -(first[rod] // common)
    return {
        each: by_first * first[each] if each in first else by_second * second[each]
        for each in whole.rods
    }


def check_common(one, other, many):
    """Refuses two frames unless they have just so many common pins; the lot of these."""
    common = tuple([pin for pin in one.pins if pin in other.pins])
    if len(common) != many:
        raise Refused(("common", common))
    return common


def _common_rod(one, other):
    """The rod that two frames have in common; refuses frames without just one."""
    pair = check_common(one, other, 2)
    if pair not in one.rods or pair not in other.rods:
        raise Refused(("rod", pair))
    return pair


def _summed(one, other, rod):
    """The two-sum of frames with a common rod; joining them refuses too many pins."""
    whole = one | other
    return whole.without_rod(rod[0], rod[1])


def _check_circuit(frame):
    if not is_circuit(frame):
        raise Refused(("circuit",))


def _halves_at(frame, lot):
    """The halves of a circuit at two pins that cut it, in the order of the sides."""
    parts = [frame.part(tuple(sorted(side + lot))) for side in sides(frame, lot)]
    return tuple([part.with_rod(lot[0], lot[1]) for part in parts])
