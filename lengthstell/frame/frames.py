"""Frames: pins, and rods between some of them."""

from lengthstell.base.words import are_names, is_lot, is_name, is_pair
from lengthstell.errors import InvalidFrame, InvalidName, InvalidOperation, InvalidRod, TooMany, UnknownName

MAX_PINS = 8


class Frame:
    """One to eight pins and some rods between them; it never changes."""

    def __init__(self, pins, rods=()):
        if not _are_pins(pins):
            raise InvalidFrame("the pins are not one to eight different names")
        if not _are_rods(pins, rods):
            raise InvalidFrame("the rods are not different pairs of the pins")
        self._pins = tuple(sorted(pins))
        self._rods = tuple(sorted(rods))

    @classmethod
    def full(cls, pins):
        """The frame with these pins in which each pair of them is a rod."""
        if not _are_pins(pins):
            raise InvalidFrame("the pins are not one to eight different names")
        return cls(pins, pairs_among(pins))

    @property
    def pins(self):
        """The pins, ascending."""
        return self._pins

    @property
    def rods(self):
        """The rods, ascending."""
        return self._rods

    @property
    def missing(self):
        """The pairs of pins that are no rods, ascending."""
        return tuple([pair for pair in pairs_among(self._pins) if pair not in self._rods])

    @property
    def is_full(self):
        """Whether each pair of pins is a rod."""
        return len(self._rods) == len(pairs_among(self._pins))

    def neighbours(self, pin):
        """The lot of the pins to which a rod leads from a pin."""
        self._check_pin(pin)
        return tuple([other for other in self._pins if pair_of(pin, other) in self._rods])

    def with_rod(self, one, other):
        """The frame with a rod more."""
        rod = self._pair_of_pins(one, other)
        if rod in self._rods:
            raise InvalidRod("there is a rod between these pins already")
        return Frame(self._pins, self._rods + (rod,))

    def without_rod(self, one, other):
        """The frame with a rod less."""
        rod = self._pair_of_pins(one, other)
        if rod not in self._rods:
            raise InvalidRod("there is no rod between these pins")
        return Frame(self._pins, tuple([kept for kept in self._rods if kept != rod]))

    def with_pin(self, pin, *neighbours):
        """The frame with a pin more, and rods from it to some pins."""
        if not is_name(pin):
            raise InvalidName("the pin is no name")
        for other in neighbours:
            self._check_pin(other)
        if pin in self._pins:
            raise InvalidOperation("the frame has the pin already")
        if len(set(neighbours)) != len(neighbours):
            raise InvalidOperation("two of the neighbours are equal")
        if len(self._pins) == MAX_PINS:
            raise TooMany(MAX_PINS)
        rods = tuple([pair_of(pin, other) for other in neighbours])
        return Frame(self._pins + (pin,), self._rods + rods)

    def coned(self, pin):
        """The frame with a pin more, and rods from it to all pins."""
        return self.with_pin(pin, *self._pins)

    def without_pin(self, pin):
        """The frame without a pin and its rods."""
        self._check_pin(pin)
        if len(self._pins) == 1:
            raise InvalidOperation("the frame has no other pin")
        return self.part(tuple([kept for kept in self._pins if kept != pin]))

    def part(self, lot):
        """The frame of the pins of a lot and of the rods among them."""
        if not is_lot_of(self._pins, lot) or lot == ():
            raise InvalidOperation("this is no lot of one or more pins of the frame")
        return Frame(lot, rods_within(self._rods, lot))

    def renamed(self, names):
        """The frame with other names of the pins."""
        if not _are_new_names(self._pins, names):
            raise InvalidOperation("this is no dict from just the pins to different names")
        pins = tuple([names[pin] for pin in self._pins])
        return Frame(pins, tuple([pair_of(names[one], names[other]) for one, other in self._rods]))

    def _check_pin(self, pin):
        if pin not in self._pins:
            raise UnknownName(pin)

    def _pair_of_pins(self, one, other):
        self._check_pin(one)
        self._check_pin(other)
        if one == other:
            raise UnknownName(other)
        return pair_of(one, other)

    def __or__(self, other):
        if not isinstance(other, Frame):
            raise InvalidFrame("the right operand is no frame")
        pins = self._pins + tuple([pin for pin in other.pins if pin not in self._pins])
        if len(pins) > MAX_PINS:
            raise TooMany(MAX_PINS)
        return Frame(pins, self._rods + tuple([rod for rod in other.rods if rod not in self._rods]))

    def __contains__(self, x):
        return x in self._rods

    def __len__(self):
        return len(self._rods)

    def __iter__(self):
        return iter(self._rods)

    def __eq__(self, other):
        return isinstance(other, Frame) and self._pins == other._pins and self._rods == other._rods

    def __str__(self):
        return f"frame of {len(self._pins)} pins, {len(self._rods)} rods"


def pair_of(one, other):
    """Two values as a tuple, the smaller one first."""
    return (min(one, other), max(one, other))


def pairs_among(pins):
    """All pairs of some pins, ascending."""
    return tuple([(one, other) for one in sorted(pins) for other in sorted(pins) if one < other])


def is_lot_of(pins, value):
    """Whether the value is a lot of some of the pins, perhaps empty."""
    return is_lot(value) and all([pin in pins for pin in value])


def rods_within(rods, lot):
    """Those of the rods that have both pins in a lot of pins."""
    return tuple([(one, other) for one, other in rods if one in lot and other in lot])


def _are_pins(value):
    """Whether the value is a tuple of one to eight different names."""
    if not are_names(value) or not 1 <= len(value) <= MAX_PINS:
        return False
    return len(set(value)) == len(value)


def _are_rods(pins, value):
    """Whether the value is a tuple of different pairs of the pins."""
    if not isinstance(value, tuple) or not all([is_pair(rod) for rod in value]):
        return False
    if len(rods_within(value, pins)) < len(value):
        return False
    return len(set(value)) == len(value)


def _are_new_names(pins, value):
    """Whether the value is a dict from just the pins to different names."""
    if not isinstance(value, dict) or len(value) != len(pins):
        return False
    if not all([pin in value and is_name(value[pin]) for pin in pins]):
        return False
    return len(set([value[pin] for pin in pins])) == len(pins)
