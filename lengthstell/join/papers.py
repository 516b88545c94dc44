"""Papers of two frames, joined to a paper of the frame of all their pins and rods."""

from math import gcd

from lengthstell.base.words import has_digits
from lengthstell.errors import InvalidOperation, Refused, TooMany
from lengthstell.frame.checks import check_frame
from lengthstell.join.sums import check_common
from lengthstell.told.told import is_told_paper

MOST_DIGITS = 600


def joined_paper(one, first, other, second):
    """The paper that the frame of all pins and rods of two told frames is told."""
    check_frame(one)
    _check_told(one, first)
    check_frame(other)
    _check_told(other, second)
    common = check_common(one, other, 3)
    whole = one | other
    _, spots, weights = first
    _, further_spots, further_weights = second
    if _turn(spots, common) == 0 or _turn(further_spots, common) == 0:
        raise Refused(("line",))
    if not all([_is_short(paper) for paper in (first, second)]):
        raise TooMany(MOST_DIGITS)
    joined = _joined_spots(spots, further_spots, common)
    placing = {pin: joined[pin] for pin in whole.pins}
    return ("told", placing, {rod: weights.get(rod, 0) + further_weights.get(rod, 0) for rod in whole.rods})


def _check_told(frame, value):
    if not is_told_paper(frame, value) or value[0] != "told":
        raise InvalidOperation("this is no paper that the frame is told")


def _is_short(paper):
    """Whether all integers of a paper have at most 600 digits."""
    _, spots, weights = paper
    numbers = [number for spot in spots.values() for number in spot] + list(weights.values())
    return all([has_digits(number, MOST_DIGITS) for number in numbers])


def _turn(spots, lot):
    """Twice the area of the triangle of three pins, 0 if they lie on a line."""
    start, one, other = [spots[pin] for pin in lot]
    return _crossed(_away(one, start), _away(other, start))


def _crossed(one, other):
    return one[0] * other[1] - one[1] * other[0]


def _away(spot, start):
    return (spot[0] - start[0], spot[1] - start[1])


def _joined_spots(spots, further, common):
    """The spots, and those of further pins led to where an affine map leads the common ones."""
    turn = _turn(further, common)
    if turn < 0:
        common = (common[0], common[2], common[1])
        turn = -turn
    led = {pin: _led(spots, further, common, further[pin]) for pin in further if pin not in spots}
    least = turn
    for spot in led.values():
        least = gcd(least, spot[0], spot[1])
    joined = {pin: (spot[0] // least, spot[1] // least) for pin, spot in led.items()}
    scale = turn // least
    for pin in spots:
        joined[pin] = (scale * spots[pin][0], scale * spots[pin][1])
    return joined


def _led(spots, further, common, spot):
    """Where the affine map leads a spot, times the turn of the common pins in the further spots."""
    start, one, other = [further[pin] for pin in common]
    away = _away(spot, start)
    by_one = _crossed(away, _away(other, start))
    by_other = _crossed(_away(one, start), away)
    by_start = _turn(further, common) - by_one - by_other
    target, to_one, to_other = [spots[pin] for pin in common]
    return (
        by_start * target[0] + by_one * to_one[0] + by_other * to_other[0],
        by_start * target[1] + by_one * to_one[1] + by_other * to_other[1],
    )
