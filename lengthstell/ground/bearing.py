"""Ties, and which pins bear them.

Some ties are free of one another in some place exactly if their rods are sparse
and each tie can be borne by a pin of its own, no pin bearing more than two.
"""

from lengthstell.base.words import is_ascending, is_integer
from lengthstell.count.pebbling import makes_room, played
from lengthstell.errors import Refused

# Slides are played as rods to the ground, which bears nothing; no pin has such a name.
GROUND = ("0", "1")


def is_tie_of(ties, value):
    """Whether the value is one of the ties; True and False are no numbers of slides."""
    return value in ties and (isinstance(value[2], str) or is_integer(value[2]))


def is_tie_lot(ties, value):
    """Whether the value is a lot of some of the ties, perhaps empty."""
    if not isinstance(value, tuple) or not all([is_tie_of(ties, tie) for tie in value]):
        return False
    return is_ascending(value)


def are_ties_keyed(ties, value):
    """Whether the value is a dict whose keys are some of the ties."""
    return isinstance(value, dict) and all([is_tie_of(ties, tie) for tie in value])


def ends_of_tie(tie):
    """The pins of a tie: both ends of a rod, the own pin of a slide."""
    if tie[0] == "rod":
        return tie[1:]
    return tie[1:2]


def borne_ties(stand):
    """The dict from as many free ties as can be, ascending, to pins that bear them."""
    slides = stand.slides
    tails, _ = played(stand.frame.rods, 2)
    for pin in slides:
        for mark in GROUND[:slides[pin]]:
            if makes_room(tails, pin, (pin,) + GROUND, 2):
                tails[(pin, mark)] = pin
    borne = {_tie_played(pair): tails[pair] for pair in tails}
    return {tie: borne[tie] for tie in stand.ties if tie in borne}


def heads_of(stand):
    """Heads of a stand; refuses stands that are not just firm."""
    borne = borne_ties(stand)
    if len(borne) < 2 * len(stand.frame.pins):
        raise Refused(("loose",))
    if len(borne) < len(stand):
        raise Refused(("many",))
    return borne


def pins_reached(pins, borne):
    """For each pin the lot of it and all pins to which it leads.

    A pin leads to the other end of each rod that it bears, and on from there.
    """
    ahead = {pin: [] for pin in pins}
    for tie in borne:
        ahead[borne[tie]].extend(list(ends_of_tie(tie)))
    return {pin: _reached_from(ahead, pin) for pin in pins}


def _tie_played(pair):
    """The tie that a pair of the game stands for."""
    pin, end = pair
    if end in GROUND:
        return ("slide", pin, GROUND.index(end))
    return ("rod", pin, end)


def _reached_from(ahead, pin):
    """A pin and all pins to which it leads, ascending."""
    reached = [pin]
    at = 0
    while at < len(reached):
        around = ahead[reached[at]]
        for other in around:
            if other not in reached:
                reached.append(other)
        at += 1
    return tuple(sorted(reached))
