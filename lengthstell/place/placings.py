"""Placings: squares, rows of rods, motions, and weights in balance."""

from lengthstell.base.elimination import kernel_of, product_of, rank_of
from lengthstell.base.fullness import full_count
from lengthstell.errors import InvalidOperation, InvalidPlacing, UnknownName
from lengthstell.frame.checks import check_frame, check_space
from lengthstell.frame.frames import is_lot_of, pair_of, pairs_among
from lengthstell.place.checks import (
    are_spots,
    are_weights,
    check_free_placing,
    check_pin_placed,
    check_placing,
    check_weights,
    space_in,
)


def is_placing(frame, value, *, space=2):
    """Whether the value is a placing of the frame in this space."""
    check_frame(frame)
    check_space(space)
    return are_spots(frame.pins, value, space)


def space_of(placing):
    """The space of a placing."""
    check_free_placing(placing)
    return space_in(placing)


def squares(frame, placing):
    """The dict from all rods to the squares of their ends."""
    check_frame(frame)
    check_placing(frame, placing)
    return _squares_of(frame.rods, placing)


def square_between(placing, one, other):
    """The square of two pins."""
    check_free_placing(placing)
    check_pin_placed(placing, one)
    check_pin_placed(placing, other)
    return _square(placing[one], placing[other])


def are_alike(placing, other_placing):
    """Whether two placings of the same pins have equal squares of all pins."""
    check_free_placing(placing)
    check_free_placing(other_placing)
    if sorted(placing) != sorted(other_placing):
        raise InvalidPlacing("the second placing has other pins")
    pairs = pairs_among(list(placing))
    return _squares_of(pairs, placing) == _squares_of(pairs, other_placing)


def rod_rows(frame, placing):
    """The tuple of the rows of all rods."""
    check_frame(frame)
    check_placing(frame, placing)
    return _rows_of(frame, placing)


def rank_at(frame, placing):
    """The rank of a placing."""
    check_frame(frame)
    check_placing(frame, placing)
    space = space_in(placing)
    most = full_count(len(frame.pins), space)
    return rank_of(_rows_of(frame, placing), len(frame.pins) * space, most)


def is_firm_at(frame, placing):
    """Whether a placing is firm."""
    return rank_at(frame, placing) == full_count(len(frame.pins), space_in(placing))


def motions(frame, placing):
    """Motions of which all motions are sums of multiples."""
    check_frame(frame)
    check_placing(frame, placing)
    space = space_in(placing)
    found = kernel_of(_rows_of(frame, placing), len(frame.pins) * space)
    return tuple([told_by_pins(frame.pins, row, space) for row in found])


def is_motion(frame, placing, value):
    """Whether the value is a motion."""
    check_frame(frame)
    check_placing(frame, placing)
    if not are_spots(frame.pins, value, space_in(placing)):
        return False
    return all([pace_of(rod, placing, value) == 0 for rod in frame.rods])


def balances(frame, placing):
    """Weights in balance of which all weights in balance are sums of multiples."""
    check_frame(frame)
    check_placing(frame, placing)
    if len(frame.rods) == 0:
        return ()
    found = kernel_of(_columns_of(frame, placing), len(frame.rods))
    return tuple([dict(zip(frame.rods, row)) for row in found])


def is_balance(frame, placing, value):
    """Whether the value is weights in balance."""
    check_frame(frame)
    check_placing(frame, placing)
    if not are_weights(frame.rods, value):
        return False
    row = [value[rod] for rod in frame.rods]
    return all([product_of(column, row) == 0 for column in _columns_of(frame, placing)])


def weight_table(frame, weights):
    """The table of weights."""
    check_frame(frame)
    check_weights(frame, weights)
    return tuple([
        tuple([_entry(frame, weights, one, other) for other in frame.pins])
        for one in frame.pins
    ])


def mirrored(placing, one, other, side):
    """Two enlarged placings, in the second one of which a side is mirrored."""
    check_free_placing(placing)
    if space_in(placing) != 2:
        raise InvalidPlacing("this is no placing in the plane")
    check_pin_placed(placing, one)
    check_pin_placed(placing, other)
    if one == other:
        raise UnknownName(other)
    if not is_lot_of(list(placing), side) or one in side or other in side:
        raise InvalidOperation("the side is no lot of other pins")
    scale = _square(placing[one], placing[other])
    if scale == 0:
        raise InvalidOperation("the pins of the line lie at one spot")
    first = {pin: _multiple(placing[pin], scale) for pin in sorted(placing)}
    second = {pin: first[pin] for pin in first}
    for pin in side:
        second[pin] = _mirror_image(placing[pin], placing[one], placing[other])
    return first, second


def shaken(placing, motion):
    """Two placings: with a motion added, and with it taken away."""
    check_free_placing(placing)
    if not are_spots(list(placing), motion, space_in(placing)):
        raise InvalidOperation("this is no dict from just the pins to tuples of integers")
    pins = sorted(placing)
    ahead = {pin: _sum(placing[pin], motion[pin]) for pin in pins}
    behind = {pin: _difference(placing[pin], motion[pin]) for pin in pins}
    return ahead, behind


def pace_of(rod, placing, velocities):
    """The row of a rod times velocities."""
    one, other = rod
    apart = _difference(placing[one], placing[other])
    return product_of(apart, _difference(velocities[one], velocities[other]))


def told_by_pins(pins, row, space):
    """The dict from the pins to their parts of a row."""
    return {pin: row[at * space:at * space + space] for at, pin in enumerate(pins)}


def _sum(spot, other):
    return tuple([number + further for number, further in zip(spot, other)])


def _difference(spot, other):
    return tuple([number - less for number, less in zip(spot, other)])


def _multiple(spot, scale):
    return tuple([number * scale for number in spot])


def _square(spot, other):
    apart = _difference(spot, other)
    return product_of(apart, apart)


def _squares_of(pairs, placing):
    return {(one, other): _square(placing[one], placing[other]) for one, other in pairs}


def _rows_of(frame, placing):
    """The rows of all rods, in the order of the rods."""
    return tuple([_row_of(rod, frame.pins, placing) for rod in frame.rods])


def _row_of(rod, pins, placing):
    one, other = rod
    apart = _difference(placing[one], placing[other])
    row = ()
    for pin in pins:
        if pin == one:
            row = row + apart
        elif pin == other:
            row = row + _multiple(apart, -1)
        else:
            row = row + _multiple(apart, 0)
    return row


def _columns_of(frame, placing):
    """For each pin and each place of its spot the integers of all rod rows there."""
    rows = _rows_of(frame, placing)
    width = len(frame.pins) * space_in(placing)
    return tuple([tuple([row[at] for row in rows]) for at in range(width)])


def _entry(frame, weights, one, other):
    """The entry of the table of weights at two pins."""
    if one == other:
        return sum([weights[rod] for rod in frame.rods if one in rod])
    pair = pair_of(one, other)
    if pair in frame.rods:
        return -weights[pair]
    return 0


def _mirror_image(spot, start, end):
    """A spot mirrored in the line through two others, times the square of these."""
    along = _difference(end, start)
    away = _difference(spot, start)
    scale = product_of(along, along)
    foot = _multiple(along, 2 * product_of(away, along))
    back = _difference(foot, _multiple(away, scale))
    return _sum(_multiple(start, scale), back)
