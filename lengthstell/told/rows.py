"""Rows at right angles, and the placings and weights that come of them."""

from math import lcm

from lengthstell.base.elimination import divided, kernel_of, product_of
from lengthstell.base.words import is_integer
from lengthstell.errors import InvalidOperation, TooMany
from lengthstell.frame.checks import check_frame, check_space
from lengthstell.frame.frames import pair_of
from lengthstell.told.telling import depth_of, is_cut_somewhere

MOST_MADE = 7
LEAST_LONG = 1000000000000
FIRST_SPOTS = ((0, 0), (1, 0), (0, 1))


def right_rows(frame, *, space=2):
    """Any right rows of the frame, or None."""
    check_frame(frame)
    check_space(space)
    check_few_pins(frame)
    # At most space + 1 pins are cut by no lot of as many pins as the space tells.
    if is_cut_somewhere(frame.pins, frame.rods, space):
        return None
    attempt = 0
    rows = None
    while rows is None:
        rows = rows_tried(frame, space, attempt)
        attempt += 1
    return rows


def are_right_rows(frame, value, *, space=2):
    """Whether the value is right rows of the frame."""
    check_frame(frame)
    check_space(space)
    many = len(frame.pins)
    if not _are_rows_of(value, many, depth_of(many, space)):
        return False
    return _are_apart(frame, value) and _are_general(value, space)


def placing_of_rows(frame, rows, *, space=2):
    """Any pair (placing, weights) that comes of right rows."""
    check_frame(frame)
    check_space(space)
    check_few_pins(frame)
    if not are_right_rows(frame, rows, space=space) or not _are_short(rows):
        raise InvalidOperation("these are no right rows of the frame with short integers")
    return come_of(frame, rows, space)


def check_few_pins(frame):
    """Refuses a frame with more pins than rows are made for."""
    if len(frame.pins) > MOST_MADE:
        raise TooMany(MOST_MADE)


def rows_tried(frame, space, attempt):
    """The right rows that an attempt of some number makes, or None if it fails.

    The frame is cut nowhere. Each row is a sum of multiples of rows at right angles
    to all of those made ahead to which it must be. Almost all such sums make right
    rows, in whichever order the pins are taken, and from these comes a firm placing
    if the frame is told: for all frames of at most seven pins, in each order of
    their pins, one of the first five attempts does so. This has been tried.
    """
    width = depth_of(len(frame.pins), space)
    by_pin = {}
    for at, pin in enumerate(_order_made(frame)):
        apart = [by_pin[other] for other in by_pin if pair_of(pin, other) not in frame.rods]
        by_pin[pin] = _row_within(kernel_of(apart, width), width, _multiplier((at + attempt) % MOST_MADE))
    rows = tuple([by_pin[pin] for pin in frame.pins])
    if _are_short(rows) and _are_general(rows, space):
        return rows
    return None


def _order_made(frame):
    """The pins in the order in which their rows are made.

    The rows of pins with few rods must be at right angles to many others: their
    integers stay short if they come first.
    """
    return [pin for _, pin in sorted([(len(frame.neighbours(pin)), pin) for pin in frame.pins])]


def come_of(frame, rows, space):
    """A pair (placing, weights) that comes of right rows."""
    if len(frame.pins) <= space + 1:
        placing = {pin: spot[:space] for pin, spot in zip(frame.pins, FIRST_SPOTS)}
        return placing, {rod: 0 for rod in frame.rods}
    first, *others = _dual_of(rows)
    factors = _factors(first, others)
    places = [_places(factors, row) for row in others]
    placing = {pin: tuple([place[at] for place in places]) for at, pin in enumerate(frame.pins)}
    scaled = {
        pin: [factor * entry for entry in row]
        for pin, factor, row in zip(frame.pins, factors, rows)
    }
    return placing, {(one, other): -product_of(scaled[one], scaled[other]) for one, other in frame.rods}


def _multiplier(number):
    """The integers other than 0, those nearer to 0 first."""
    if number % 2 == 0:
        return number // 2 + 1
    return -(number // 2 + 1)


def _row_within(basis, width, multiplier):
    """The sum of the rows of a basis times the powers of a multiplier, cleared."""
    total = [0] * width
    scale = 1
    for row in basis:
        total = [entry + scale * further for entry, further in zip(total, row)]
        scale = scale * multiplier
    return divided(total)


def _are_rows_of(value, many, width):
    """Whether the value is a tuple of so many rows of a width."""
    if not isinstance(value, tuple) or len(value) != many:
        return False
    for row in value:
        if not isinstance(row, tuple) or len(row) != width:
            return False
        if not all([is_integer(entry) for entry in row]):
            return False
    return True


def _are_short(rows):
    """Whether all integers of some rows have at most 12 digits."""
    return all([abs(entry) < LEAST_LONG for row in rows for entry in row])


def _are_apart(frame, rows):
    """Whether any two pins without a rod have rows at right angles."""
    by_pin = dict(zip(frame.pins, rows))
    return all([product_of(by_pin[one], by_pin[other]) == 0 for one, other in frame.missing])


def _dual_of(rows):
    """The kernel of the columns of rows: all ways in which multiples of the rows add up to 0."""
    columns = [[row[at] for row in rows] for at in range(len(rows[0]))]
    return kernel_of(columns, len(rows))


def _are_general(rows, space):
    """Whether any rows, as many as their width, are free of one another."""
    if len(rows) <= space + 1:
        return True
    # They are so if all rows have this rank, and in their dual any rows but these are free.
    dual = _dual_of(rows)
    if len(dual) != space + 1:
        return False
    spots = [tuple([row[at] for row in dual]) for at in range(len(rows))]
    if space == 1:
        return _are_unlike(spots)
    return _are_on_no_line(spots)


def _are_unlike(spots):
    """Whether no two pairs of integers are multiples of one another."""
    for at in range(len(spots)):
        across, up = spots[at]
        for further, higher in spots[:at]:
            if across * higher == up * further:
                return False
    return True


def _are_on_no_line(spots):
    """Whether any three triples of integers are free of one another."""
    for at in range(len(spots)):
        for behind in range(at):
            normal = _crossed(spots[at], spots[behind])
            for last in spots[:behind]:
                if product_of(normal, last) == 0:
                    return False
    return True


def _crossed(one, other):
    """The triple whose products with both triples are 0."""
    return (
        one[1] * other[2] - one[2] * other[1],
        one[2] * other[0] - one[0] * other[2],
        one[0] * other[1] - one[1] * other[0],
    )


def _factors(first, others):
    """Factors: the first row of a dual and multiples of the others, other than 0 at each pin."""
    number = 0
    while True:
        found = [first[at] for at in range(len(first))]
        scale = 1
        for row in others:
            scale = scale * _multiplier(number)
            found = [entry + scale * further for entry, further in zip(found, row)]
        if all([entry != 0 for entry in found]):
            return divided(found)
        number += 1


def _places(factors, row):
    """Integers in the proportion in which a row of a dual has the factors in it."""
    scale = 1
    for factor in factors:
        scale = lcm(scale, factor)
    return divided([scale // factor * entry for factor, entry in zip(factors, row)])
