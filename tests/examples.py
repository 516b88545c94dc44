"""The values that most examples of the document use, and small helpers for tests."""

import itertools

from lengthstell.frame.frames import Frame


def pairs(text):
    """The tuple of pairs that a string like "ab ac" stands for."""
    return tuple(tuple(word) for word in text.split())


FOUR = Frame.full(("a", "b", "c", "d"))
KITE = FOUR.without_rod("c", "d")
WHEEL = Frame(("a", "b", "c", "d", "e"), pairs("ab ac ad ae bc be cd de"))
TWIN = Frame(("a", "b", "c", "d", "e", "f"), pairs("ab ac ad ae af bc bd be bf cd ef"))
THREES = Frame(("a", "b", "c", "d", "e", "f"), pairs("ad ae af bd be bf cd ce cf"))
BOW = Frame(("a", "b", "c", "d", "e"), pairs("ab ac bc cd ce de"))
RING = Frame(("a", "b", "c", "d"), pairs("ab ad bc cd"))
SINGLE = Frame(("a",))
EIGHT = Frame.full(tuple("abcdefgh"))
LOOSE_EIGHT = Frame(tuple("abcdefgh"))
# Two full frames of four pins with one common pin.
JOINED = Frame(tuple("abcdefg"), pairs("ab ac ad bc bd cd de df dg ef eg fg"))

# Seven pins and fourteen rods: told, and just ab and bc can go.
SEVEN = Frame(tuple("abcdefg"), pairs("ad ae af ag bd be bf bg cd ce cf cg ab bc"))

NAMED = (FOUR, KITE, WHEEL, TWIN, THREES, BOW, RING, SINGLE, EIGHT, LOOSE_EIGHT, JOINED)

SQUARE = {"a": (0, 0), "b": (2, 0), "c": (2, 2), "d": (0, 2)}

# The least integers of 2000 and of 2001 digits, and the longest one of 2000 digits.
LONG = 10 ** 1999
LONGEST = 10 ** 2000 - 1
TOO_LONG = 10 ** 2000


def subsets(values):
    """All tuples of some of the values, in their order, the shorter ones first."""
    values = tuple(values)
    for size in range(len(values) + 1):
        yield from itertools.combinations(values, size)


def all_frames(pins):
    """All frames with just these pins."""
    pins = tuple(pins)
    for rods in subsets(itertools.combinations(sorted(pins), 2)):
        yield Frame(pins, rods)


def shapes(pins):
    """One frame of each shape with just these pins: all others have the same rods by other names."""
    pins = tuple(sorted(pins))
    places = {pair: at for at, pair in enumerate(itertools.combinations(pins, 2))}
    orders = [
        [places[tuple(sorted((names[one], names[other])))] for one, other in places]
        for names in (dict(zip(pins, order)) for order in itertools.permutations(pins))
    ]
    seen = set()
    for number in range(1 << len(places)):
        if number not in seen:
            here = [at for at in range(len(places)) if number >> at & 1]
            seen.update(sum(1 << order[at] for at in here) for order in orders)
            yield Frame(pins, tuple(pair for pair, at in places.items() if at in here))


def renamed_at_random(rng, frame):
    """The frame with its pins in another order."""
    return frame.renamed(dict(zip(frame.pins, rng.sample(frame.pins, len(frame.pins)))))


def random_frame(rng, many=None):
    """A frame of some pins, with any of its pairs as rods."""
    if many is None:
        many = rng.randrange(1, 9)
    pins = tuple("abcdefgh"[:many])
    share = rng.random()
    rods = [pair for pair in itertools.combinations(pins, 2) if rng.random() < share]
    return Frame(pins, tuple(rods))


def random_told_frame(rng, many):
    """A frame that is told in the plane, made by steps."""
    names = tuple("abcdefgh")
    frame = Frame.full(names[:4])
    while len(frame.pins) < many or rng.random() < 0.3:
        if len(frame.pins) < many and rng.random() < 0.7:
            one, other = rng.choice(frame.rods)
            third = rng.choice([pin for pin in frame.pins if pin not in (one, other)])
            frame = frame.without_rod(one, other).with_pin(names[len(frame.pins)], one, other, third)
        elif frame.missing:
            frame = frame.with_rod(*rng.choice(frame.missing))
    return frame.renamed(dict(zip(frame.pins, rng.sample(names, len(frame.pins)))))


def random_placing(rng, frame, space, size):
    """A placing of a frame with integers from -size to size."""
    return {
        pin: tuple(rng.randrange(-size, size + 1) for _ in range(space))
        for pin in frame.pins
    }


def nested_tuples(deep, inner=1):
    """The inner value in so many tuples of one."""
    for _ in range(deep):
        inner = (inner,)
    return inner
