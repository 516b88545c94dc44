"""Stands: frames with slides, and what the counts of their ties tell."""

from lengthstell.base.words import is_integer
from lengthstell.count.blocks import are_parted, parting, sum_of_lots
from lengthstell.errors import InvalidOperation, InvalidStand
from lengthstell.frame.checks import check_frame, check_lot
from lengthstell.frame.frames import Frame, is_lot_of
from lengthstell.ground.bearing import borne_ties, is_tie_of, pins_reached

MOST_SLIDES = 2


class Stand:
    """A frame, and one or two slides at some of its pins; it never changes."""

    def __init__(self, frame, slides):
        check_frame(frame)
        if not _are_slides(frame.pins, slides):
            raise InvalidStand("the slides are no dict from some pins to 1 or 2")
        self._frame = frame
        self._slides = {pin: slides[pin] for pin in frame.pins if pin in slides}
        self._ties = _ties_of(frame.rods, self._slides)

    @classmethod
    def held_at(cls, frame, lot):
        """The stand with two slides at each pin of a lot and no others."""
        check_frame(frame)
        check_lot(frame, lot)
        return cls(frame, {pin: MOST_SLIDES for pin in lot})

    @property
    def frame(self):
        """The frame."""
        return self._frame

    @property
    def slides(self):
        """The dict from the pins with slides to the numbers of these."""
        return {pin: self._slides[pin] for pin in self._slides}

    @property
    def ties(self):
        """The lot of all ties."""
        return self._ties

    @property
    def held(self):
        """The lot of the pins with two slides."""
        return tuple([pin for pin in self._slides if self._slides[pin] == MOST_SLIDES])

    @property
    def inner(self):
        """The lot of all pins that are not held."""
        return tuple([pin for pin in self._frame.pins if self._slides.get(pin, 0) < MOST_SLIDES])

    def with_tie(self, tie):
        """The stand with a tie more."""
        if not is_tie_of(self._ties_to_add(), tie):
            raise InvalidOperation("this tie cannot be put in")
        if tie[0] == "rod":
            return Stand(self._frame.with_rod(tie[1], tie[2]), self._slides)
        return self._with_slides(tie[1], tie[2] + 1)

    def without_tie(self, tie):
        """The stand with a tie less."""
        if tie not in self:
            raise InvalidOperation("this is no tie of the stand")
        if tie[0] == "rod":
            return Stand(self._frame.without_rod(tie[1], tie[2]), self._slides)
        return self._with_slides(tie[1], self._slides[tie[1]] - 1)

    def _ties_to_add(self):
        """All ties of which each one can be put in."""
        rods = [("rod",) + pair for pair in self._frame.missing]
        return rods + [("slide", pin, self._slides.get(pin, 0)) for pin in self.inner]

    def _with_slides(self, pin, many):
        """The stand with another number of slides at a pin, perhaps none."""
        slides = {other: self._slides[other] for other in self._slides if other != pin}
        if many > 0:
            slides[pin] = many
        return Stand(self._frame, slides)

    def __contains__(self, x):
        return is_tie_of(self._ties, x)

    def __len__(self):
        return len(self._ties)

    def __iter__(self):
        return iter(self._ties)

    def __eq__(self, other):
        return isinstance(other, Stand) and self._frame == other._frame and self._slides == other._slides

    def __str__(self):
        many = len(self._ties) - len(self._frame)
        return f"stand of {len(self._frame.pins)} pins, {len(self._frame)} rods, {many} slides"


def check_stand(stand):
    """Refuses what is no stand."""
    if not isinstance(stand, Stand):
        raise InvalidStand("this is no stand")


def check_tie(stand, tie):
    """Refuses what is no tie of the stand."""
    if tie not in stand:
        raise InvalidOperation("this is no tie of the stand")


def stand_rank(stand):
    """The stand rank."""
    check_stand(stand)
    return len(borne_ties(stand))


def is_firm_stand(stand):
    """Whether the stand rank is two times the number of the pins."""
    return stand_rank(stand) == 2 * len(stand.frame.pins)


def is_just_firm(stand):
    """Whether the stand is firm and has no more ties than it must have."""
    return is_firm_stand(stand) and len(stand) == 2 * len(stand.frame.pins)


def spare_ties(stand):
    """The lot of all spare ties."""
    check_stand(stand)
    whole = len(borne_ties(stand))
    return tuple([tie for tie in stand.ties if len(borne_ties(stand.without_tie(tie))) == whole])


def stand_parting(stand):
    """Any stand parting with the least sum."""
    check_stand(stand)
    borne = borne_ties(stand)
    pins = stand.frame.pins
    bearers = list(borne.values())
    free = [pin for pin in pins if bearers.count(pin) < 2]
    reached = pins_reached(pins, borne)
    # The pins that lead to no pin with room for a tie more have as many ties as they can have;
    # outside of them all slides are borne, and all rods that are left out close circuits there.
    lot = tuple([pin for pin in pins if not any([other in free for other in reached[pin]])])
    return (lot, parting(Frame(pins, _rods_outside(stand.frame.rods, lot))))


def is_stand_parting(stand, value):
    """Whether the value is a stand parting with the least sum."""
    check_stand(stand)
    if not isinstance(value, tuple) or len(value) != 2:
        return False
    lot, lots = value
    if not is_lot_of(stand.frame.pins, lot) or not are_parted(_rods_outside(stand.frame.rods, lot), lots):
        return False
    slides = stand.slides
    outside = sum([slides[pin] for pin in slides if pin not in lot])
    return 2 * len(lot) + sum_of_lots(lots, 2) + outside == len(borne_ties(stand))


def _are_slides(pins, value):
    """Whether the value is a dict from some of the pins to 1 or 2."""
    if not isinstance(value, dict) or not all([pin in pins for pin in value]):
        return False
    return all([is_integer(many) and 1 <= many <= MOST_SLIDES for many in value.values()])


def _ties_of(rods, slides):
    """All ties, ascending: the rods, and then the slides of the pins."""
    ties = [("rod",) + rod for rod in rods]
    for pin in slides:
        for at in range(slides[pin]):
            ties.append(("slide", pin, at))
    return tuple(ties)


def _rods_outside(rods, lot):
    """The rods that do not have both pins in a lot."""
    return tuple([(one, other) for one, other in rods if one not in lot or other not in lot])
