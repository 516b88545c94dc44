"""Places of stands: spots for the pins, and directions for the slides."""

from lengthstell.base.elimination import rank_of
from lengthstell.base.words import MAX_DIGITS, has_digits
from lengthstell.errors import InvalidDirections, InvalidPlacing
from lengthstell.ground.bearing import borne_ties
from lengthstell.ground.stands import check_stand
from lengthstell.place.checks import are_spots, is_spot
from lengthstell.place.placings import rod_rows

# The integers of the places that are tried are below this prime.
SPREAD = 997


def is_place(stand, value):
    """Whether the value is a place of the stand."""
    check_stand(stand)
    return _is_placed(stand, value) and _are_directions(stand, value[1])


def stand_rows(stand, place):
    """The tuple of the rows of all ties."""
    check_stand(stand)
    check_place(stand, place, MAX_DIGITS)
    return rows_of_ties(stand, place)


def rank_at_place(stand, place):
    """The rank of a place."""
    check_stand(stand)
    check_place(stand, place, MAX_DIGITS)
    return rank_of_place(stand, place)


def is_firm_at_place(stand, place):
    """Whether a place is firm."""
    return rank_at_place(stand, place) == 2 * len(stand.frame.pins)


def stand_place(stand):
    """Any place whose rank is the stand rank."""
    check_stand(stand)
    most = len(borne_ties(stand))
    attempt = 0
    while rank_of_place(stand, place_tried(stand, attempt)) < most:
        attempt += 1
    return place_tried(stand, attempt)


def check_place(stand, place, most):
    """Refuses what is no place of the stand with integers of at most so many digits."""
    if not _is_placed(stand, place) or not _are_short(list(place[0].values()), most):
        raise InvalidPlacing("this is no pair that begins with a placing of the frame in the plane")
    if not _are_directions(stand, place[1]) or not _are_short(_all_directions(place[1]), most):
        raise InvalidDirections("these are no directions of the slides")


def rows_of_ties(stand, place):
    """The rows of all ties, in the order of the ties."""
    placing, directions = place
    rows = list(rod_rows(stand.frame, placing))
    for pin in stand.slides:
        at = 2 * stand.frame.pins.index(pin)
        for across, up in directions[pin]:
            row = [0] * (2 * len(placing))
            row[at] = -up
            row[at + 1] = across
            rows.append(tuple(row))
    return tuple(rows)


def rank_of_place(stand, place):
    """The greatest number of ties whose rows are free of one another."""
    most = 2 * len(stand.frame.pins)
    return rank_of(rows_of_ties(stand, place), most, most)


def place_tried(stand, attempt):
    """A place of a stand, another one for each attempt.

    Almost all places have the stand rank, and in almost all of them all pins move
    that can be moved, so one of the first attempts will do. This has been tried.
    """
    placing = {}
    directions = {}
    slides = stand.slides
    for at, pin in enumerate(stand.frame.pins):
        seed = 8 * attempt + at + 2
        placing[pin] = (_spread(seed, 3), _spread(seed, 5))
        if pin in slides:
            first = (1 + _spread(seed, 7), _spread(seed, 11))
            # A quarter turn of the first direction, and no multiple of it.
            second = (-first[1], first[0] + _spread(seed, 13))
            directions[pin] = (first, second)[:slides[pin]]
    return placing, directions


def _spread(seed, power):
    """A number below the prime that depends on a seed as if by chance."""
    number = 1
    for _ in range(power):
        number = number * (seed * seed + power) % SPREAD
    return number


def _is_placed(stand, value):
    """Whether the value is a pair that begins with a placing of the stand's frame in the plane."""
    if not isinstance(value, tuple) or len(value) != 2:
        return False
    return are_spots(stand.frame.pins, value[0], 2)


def _are_directions(stand, value):
    """Whether the value is directions of the slides."""
    slides = stand.slides
    if not isinstance(value, dict) or len(value) != len(slides):
        return False
    return all([pin in value and _are_directions_at(value[pin], slides[pin]) for pin in slides])


def _are_directions_at(value, many):
    """Whether the value is a tuple of so many directions, of which none is a multiple of another one."""
    if not isinstance(value, tuple) or len(value) != many:
        return False
    if not all([is_spot(direction, 2) and direction != (0, 0) for direction in value]):
        return False
    if many == 1:
        return True
    first, second = value
    return first[0] * second[1] != first[1] * second[0]


def _all_directions(directions):
    return [direction for some in directions.values() for direction in some]


def _are_short(couples, most):
    """Whether all integers of some pairs have at most so many digits."""
    return all([has_digits(number, most) for couple in couples for number in couple])
