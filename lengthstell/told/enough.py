"""Rods that are enough to make a frame told, and rods that can go."""

from lengthstell.base.words import is_ascending, is_lot_among, is_pair, lots_by_length
from lengthstell.errors import InvalidOperation, TooMany
from lengthstell.frame.checks import check_frame, check_space
from lengthstell.told.telling import is_told_by_counts

MOST_OFFERED = 5
MOST_LOTS = 40
MOST_MEMBERS = 10


def needless(frame, *, space=2):
    """The lot of all rods each of which can be left out alone of a told frame."""
    check_frame(frame)
    check_space(space)
    # What is told without a rod is told with it, so a frame that is not told has none.
    if not is_told_by_counts(frame.pins, frame.rods, space):
        return ()
    return tuple([rod for rod in frame.rods if is_told_by_counts(frame.pins, _without((rod,), frame.rods), space)])


def told_lots(frame, offered, *, space=2):
    """All lots of offered pairs with which the frame is told, the shorter ones first."""
    _check_offered(frame, offered, space)
    for lot in _all_telling(frame.pins, frame.rods, offered, space):
        yield lot


def enough(frame, offered, *, space=2):
    """All least lots of offered pairs with which the frame is told."""
    _check_offered(frame, offered, space)
    return _least_telling(frame.pins, frame.rods, offered, space)


def lacking(frame, offered, *, space=2):
    """All greatest lots of offered pairs with which the frame is not told."""
    _check_offered(frame, offered, space)
    return _greatest_lacking(offered, _least_telling(frame.pins, frame.rods, offered, space))


def are_families(frame, offered, value, *, space=2):
    """Whether the value is the pair of what is enough and what is lacking."""
    _check_offered(frame, offered, space)
    least = _least_telling(frame.pins, frame.rods, offered, space)
    return value == (least, _greatest_lacking(offered, least))


def left_out(frame, doubtful, *, space=2):
    """All greatest lots of doubtful rods without which the frame is told."""
    least = _enough_of_doubtful(frame, doubtful, space)
    return _rests(doubtful, least)


def breaking(frame, doubtful, *, space=2):
    """All least lots of doubtful rods without which the frame is not told."""
    least = _enough_of_doubtful(frame, doubtful, space)
    return _rests(doubtful, _greatest_lacking(doubtful, least))


def meeting_lots(lots):
    """All least lots that meet each of some lots."""
    if not _are_few_lots(lots):
        raise InvalidOperation("these are no lots of pairs, or too many")
    members = _members_of(lots)
    within = _has_lot_within(members, lots)
    whole = len(within) - 1
    found = []
    for number in range(len(within)):
        # A lot meets all lots exactly if none of them is within the rest.
        if not within[whole - number] and _is_least_meeting(within, number):
            found.append(tuple([pair for at, pair in enumerate(members) if number & (1 << at) > 0]))
    return tuple(sorted(found))


def _check_offered(frame, offered, space):
    check_frame(frame)
    if not is_lot_among(frame.missing, offered):
        raise InvalidOperation("the offered pairs are no lot of pairs of pins that are no rods")
    check_space(space)
    _check_few(offered)


def _check_few(lot):
    if len(lot) > MOST_OFFERED:
        raise TooMany(MOST_OFFERED)


def _enough_of_doubtful(frame, doubtful, space):
    """The least lots of doubtful rods that make the frame without all of these told."""
    check_frame(frame)
    if not is_lot_among(frame.rods, doubtful):
        raise InvalidOperation("the doubtful rods are no lot of rods")
    check_space(space)
    _check_few(doubtful)
    return _least_telling(frame.pins, _without(doubtful, frame.rods), doubtful, space)


def _without(lot, pairs):
    """Those of the pairs that are not in a lot."""
    return tuple([pair for pair in pairs if pair not in lot])


def _is_within(lot, other):
    return all([pair in other for pair in lot])


def _rests(pairs, lots):
    """What each lot leaves of the pairs, ascending."""
    return tuple(sorted([_without(lot, pairs) for lot in lots]))


def _least_telling(pins, rods, offered, space):
    """The least lots of offered pairs that make a frame told."""
    least = []
    for lot in lots_by_length(offered):
        # A told frame stays told with each further rod, so only the others are looked at.
        if not _has_one_within(least, lot) and is_told_by_counts(pins, rods + lot, space):
            least.append(lot)
    return tuple(sorted(least))


def _has_one_within(lots, other):
    return any([_is_within(lot, other) for lot in lots])


def _all_telling(pins, rods, offered, space):
    """All lots of offered pairs that make a frame told, the shorter ones first."""
    least = _least_telling(pins, rods, offered, space)
    return [lot for lot in lots_by_length(offered) if _has_one_within(least, lot)]


def _greatest_lacking(offered, least):
    """The greatest lots of offered pairs that have none of the least lots within them."""
    found = []
    for lot in reversed(lots_by_length(offered)):
        if not _has_one_within(least, lot) and not any([_is_within(lot, other) for other in found]):
            found.append(lot)
    return tuple(sorted(found))


def _are_few_lots(value):
    """Whether the value is an ascending tuple of at most 40 lots of at most 10 pairs in all."""
    if not isinstance(value, tuple) or len(value) > MOST_LOTS:
        return False
    for lot in value:
        if not isinstance(lot, tuple) or not all([is_pair(pair) for pair in lot]) or not is_ascending(lot):
            return False
    return is_ascending(value) and len(_members_of(value)) <= MOST_MEMBERS


def _members_of(lots):
    """All pairs of some lots, ascending."""
    return tuple(sorted({pair for lot in lots for pair in lot}))


def _has_lot_within(members, lots):
    """For each lot of members whether some of the lots are within it.

    A lot of members is told by the integer in which the bit at the index of a
    member says whether it is in the lot.
    """
    within = [False] * (1 << len(members))
    for lot in lots:
        within[sum([1 << members.index(pair) for pair in lot])] = True
    for number in range(len(within)):
        if not within[number]:
            within[number] = any([within[number - bit] for bit in _bits_of(number)])
    return within


def _bits_of(number):
    return [1 << at for at in range(number.bit_length()) if number & (1 << at) > 0]


def _is_least_meeting(within, number):
    """Whether no meeting lot is within a lot that is one, other than it."""
    whole = len(within) - 1
    return all([within[whole - number + bit] for bit in _bits_of(number)])
