"""Pieces of a frame, and the lots of pins that cut it."""

from lengthstell.base.words import is_integer
from lengthstell.errors import InvalidNumber
from lengthstell.frame.checks import check_frame, check_lot

MOST_CUT = 6


def pieces(frame):
    """The pieces of a frame, ordered by their first pins."""
    check_frame(frame)
    return _sides_of(frame, ())


def sides(frame, lot):
    """The pieces that are left without the pins of a lot and their rods."""
    check_frame(frame)
    check_lot(frame, lot)
    return _sides_of(frame, lot)


def is_cut_by(frame, lot):
    """Whether a lot of pins cuts the frame."""
    check_frame(frame)
    check_lot(frame, lot)
    return _does_cut(frame, lot)


def cuts(frame, size):
    """All lots of so many pins that cut the frame, ascending."""
    check_frame(frame)
    if not is_integer(size) or not 0 <= size <= MOST_CUT:
        raise InvalidNumber(size)
    return tuple([lot for lot in _lots_of(frame.pins, size) if _does_cut(frame, lot)])


def _does_cut(frame, lot):
    return len(_sides_of(frame, lot)) >= 2


def _sides_of(frame, lot):
    found = []
    told = list(lot)
    for pin in frame.pins:
        if pin not in told:
            side = _side_with(frame, lot, pin)
            found.append(side)
            told.extend(side)
    return tuple(found)


def _side_with(frame, lot, pin):
    """The lot of all pins that are reached from a pin around the pins of a lot."""
    reached = [pin]
    at = 0
    while at < len(reached):
        around = frame.neighbours(reached[at])
        for other in around:
            if other not in lot and other not in reached:
                reached.append(other)
        at += 1
    return tuple(sorted(reached))


def _lots_of(pins, size):
    """All lots of so many of the pins, ascending."""
    lots = [()]
    for _ in range(size):
        lots = [lot + (pin,) for lot in lots for pin in pins if lot == () or lot[-1] < pin]
    return lots
