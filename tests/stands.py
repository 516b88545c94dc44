"""Stands for tests, and slow answers about them, reckoned as the document words them."""

import functools
import itertools
from fractions import Fraction

from lengthstell.frame.frames import Frame
from lengthstell.ground.stands import Stand
from tests import oracles
from tests.examples import FOUR, pairs, random_frame, subsets

TRIPOD = Stand(Frame.full(("a", "b", "c")), {"a": 2, "b": 1})
EVEN = Stand(Frame.full(("a", "b", "c")), {"a": 1, "b": 1, "c": 1})
DOUBLE = Stand.held_at(FOUR.with_pin("g", "a").with_pin("h", "b"), ("g", "h"))
LADDER = Stand(Frame(("a", "b", "c", "d"), pairs("ab ac ad bc bd")), {"a": 1, "b": 1, "c": 1})
ARM = Stand(Frame(("a", "b", "c", "d"), pairs("ac bc bd cd")), {"a": 2, "b": 2})
LONE = Stand(Frame(("a",)), {"a": 2})
BARE = Stand(Frame(("a", "b")), {})
# Eight ties that can be dealt to the pins, but the rods alone are too many.
DEALT = Stand(FOUR, {"a": 1, "b": 1})
MANY = Stand.held_at(FOUR, ("a", "b"))

AXES = ((1, 0), (0, 1))
SPOTS = {"a": (0, 0), "b": (2, 0), "c": (0, 1)}
LEVEL = {"a": AXES, "b": ((1, 0),)}
UPRIGHT = {"a": AXES, "b": ((0, 1),)}
PLACE = ({"a": (0, 0), "b": (4, 0), "c": (0, 3), "d": (4, 3)}, {"a": AXES, "b": AXES})


def rods(text):
    """The lot of the ties of the rods that a string like "ab ac" stands for."""
    return tuple(("rod", *pair) for pair in pairs(text))


def slides(*told):
    return tuple(("slide", *tie) for tie in told)


def random_stand(rng, many=None):
    """A stand with any rods and any slides."""
    frame = random_frame(rng, many)
    share = rng.random()
    return Stand(frame, {pin: rng.randrange(1, 3) for pin in frame.pins if rng.random() < share})


def random_just_firm_stand(rng, many):
    """A just firm stand, to which ties are put in as long as they are free."""
    pins = tuple("abcdefgh"[:many])
    rods_first = rng.choice((0.2, 1, 1, 5))
    ties = [("rod", *pair) for pair in itertools.combinations(pins, 2)] + [("slide", pin) for pin in pins * 2]
    rng.shuffle(ties)
    weights = [rng.random() * (rods_first if tie[0] == "rod" else 1) for tie in ties]
    free = Stand(Frame(pins), {})
    for _, tie in sorted(zip(weights, ties)):
        if tie[0] == "slide":
            tie = ("slide", tie[1], free.slides.get(tie[1], 0))
        longer = free.with_tie(tie)
        if len(longer) <= 2 * many and are_few_everywhere(longer):
            free = longer
    assert len(free) == 2 * many
    return free


def rods_outside(stand, lot):
    return tuple(rod for rod in stand.frame.rods if not (rod[0] in lot and rod[1] in lot))


def sum_outside(stand, lot, lots):
    """The sum of a stand parting, by 11.4."""
    slides_outside = sum(many for pin, many in stand.slides.items() if pin not in lot)
    return 2 * len(lot) + oracles.parting_sum(lots, 2) + slides_outside


def is_stand_parting(stand, value):
    """Whether a pair is a stand parting with the least sum."""
    lot, lots = value
    if not oracles.is_plain_lot(lot, stand.frame.pins) or not oracles.is_parting_of(rods_outside(stand, lot), lots):
        return False
    return sum_outside(stand, lot, lots) == least_sum(stand)


@functools.lru_cache(maxsize=None)
def rank_of_rods(some):
    return len(oracles.greatest_sparse(some, 2))


def least_sum(stand):
    """The stand rank: the least sum, where the rods outside of a lot count as a frame of their own."""
    return min(
        sum_outside(stand, lot, ()) + rank_of_rods(rods_outside(stand, lot))
        for lot in subsets(stand.frame.pins)
    )


def least_sum_of_all(stand):
    """The stand rank, over all stand partings one by one; for few rods only."""
    return min(
        sum_outside(stand, lot, lots)
        for lot in subsets(stand.frame.pins)
        for lots in oracles.partings(rods_outside(stand, lot))
    )


def is_just_firm_by_lots(stand):
    """Whether a stand is just firm, by the second sentence of 11.5."""
    return len(stand) == 2 * len(stand.frame.pins) and are_few_everywhere(stand)


def are_few_everywhere(stand):
    """Whether the rods are sparse, and each lot has at most two times as many rods and slides as pins."""
    return oracles.is_sparse(stand.frame.rods, 2) and all(
        len(stand.frame.rods) - len(rods_outside(stand, lot)) + sum(stand.slides.get(pin, 0) for pin in lot) <= 2 * len(lot)
        for lot in subsets(stand.frame.pins) if lot
    )


def tie_rows(stand, place):
    """The rows of all ties, by 11.3."""
    placing, directions = place
    found = []
    for tie in stand.ties:
        row = {pin: (0, 0) for pin in stand.frame.pins}
        if tie[0] == "rod":
            one, other = tie[1:]
            row[one] = tuple(x - y for x, y in zip(placing[one], placing[other]))
            row[other] = tuple(-x for x in row[one])
        else:
            x, y = directions[tie[1]][tie[2]]
            row[tie[1]] = (-y, x)
        found.append(tuple(number for pin in stand.frame.pins for number in row[pin]))
    return tuple(found)


def paces_at(stand, place, velocities):
    """The pace of each tie, by 13.2."""
    row = [number for pin in stand.frame.pins for number in velocities[pin]]
    return {tie: sum(x * y for x, y in zip(each, row)) for tie, each in zip(stand.ties, tie_rows(stand, place))}


def velocities_at(stand, place, paces):
    """The velocities as fractions with just these paces in a firm place; None if it is not firm."""
    width = 2 * len(stand.frame.pins)
    wide = [[*row, paces.get(tie, 0)] for tie, row in zip(stand.ties, tie_rows(stand, place))]
    done, leads = oracles.echelon(wide)
    if leads != list(range(width)):
        return None
    row = [Fraction(each[width]) for each in done[:width]]
    return {pin: (row[2 * at], row[2 * at + 1]) for at, pin in enumerate(stand.frame.pins)}


def all_heads(stand):
    """All heads, by trying all ways to give each tie to one of its pins."""
    found = []
    for pins in itertools.product(*[tie[1:] if tie[0] == "rod" else tie[1:2] for tie in stand.ties]):
        if all(pins.count(pin) == 2 for pin in stand.frame.pins):
            found.append(dict(zip(stand.ties, pins)))
    return found


def leads(stand, heads):
    """For each pin the set of itself and all pins to which it leads, by 12.2."""
    found = {pin: {pin} for pin in stand.frame.pins}
    for _ in stand.frame.pins:
        for tie, bearer in heads.items():
            if tie[0] == "rod":
                end = tie[1] if tie[2] == bearer else tie[2]
                for led in found.values():
                    if bearer in led:
                        led.add(end)
    return found


def parts_of(led):
    """The set of all parts."""
    return {tuple(sorted(other for other in led[pin] if pin in led[other])) for pin in led}


def parts_in_order(led):
    """The parts in the order of `parts`, by stage 12."""
    left, found = sorted(parts_of(led)), []
    while left:
        found.append(next(
            part for part in left
            if not any(other != part and set(other) & set().union(*[led[pin] for pin in part]) for other in left)
        ))
        left.remove(found[-1])
    return tuple(found)


def closed_lots(led):
    """All closed lots, those with fewer pins first."""
    return [lot for lot in subsets(sorted(led)) if all(led[pin] <= set(lot) for pin in lot)]


def moved_by(led, heads, driven):
    """The lot of all pins that are moved by a lot of ties, by 13.3."""
    belong = {heads[tie] for tie in driven}
    parts = [set(part) for part in parts_of(led) if belong & set(part)]
    return tuple(sorted(pin for pin in led if any(led[pin] & part for part in parts)))
