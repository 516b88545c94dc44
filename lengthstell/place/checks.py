"""What placings, motions and weights are, and the errors of those that are none."""

from lengthstell.base.words import is_integer, is_name
from lengthstell.errors import InvalidPlacing, InvalidWeights, UnknownName
from lengthstell.frame.frames import MAX_PINS


def is_spot(value, space):
    """Whether the value is a tuple of as many integers as the space tells."""
    if not isinstance(value, tuple) or len(value) != space:
        return False
    return all([is_integer(number) for number in value])


def are_spots(pins, value, space):
    """Whether the value is a dict from just the pins to spots of a space."""
    if not isinstance(value, dict) or len(value) != len(pins):
        return False
    return all([pin in value and is_spot(value[pin], space) for pin in pins])


def are_weights(rods, value):
    """Whether the value is a dict from just the rods to integers."""
    if not isinstance(value, dict) or len(value) != len(rods):
        return False
    return all([rod in value and is_integer(value[rod]) for rod in rods])


def check_placing(frame, placing):
    """Refuses what is no placing of the frame, of any space."""
    if not are_spots(frame.pins, placing, 1) and not are_spots(frame.pins, placing, 2):
        raise InvalidPlacing("this is no placing of the frame")


def check_free_placing(placing):
    """Refuses what is no placing of one to eight names."""
    if not _is_any_placing(placing):
        raise InvalidPlacing("this is no placing")


def check_pin_placed(placing, pin):
    """Refuses what is no pin of the placing."""
    if not is_name(pin) or pin not in placing:
        raise UnknownName(pin)


def check_weights(frame, weights):
    """Refuses what are no weights of the frame."""
    if not are_weights(frame.rods, weights):
        raise InvalidWeights("these are no weights of the rods of the frame")


def space_in(placing):
    """The space of a placing."""
    return max([len(spot) for spot in placing.values()])


def _is_any_placing(value):
    if not isinstance(value, dict) or not 1 <= len(value) <= MAX_PINS:
        return False
    if not all([is_name(pin) for pin in value]):
        return False
    return are_spots(list(value), value, 1) or are_spots(list(value), value, 2)
