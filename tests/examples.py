"""The values that most examples of the document use, and small helpers for tests."""

import itertools

from lengthstell.frame.frames import Frame


def pairs(text):
    """The tuple of pairs that a string like "ab ac" stands for."""
    return tuple(tuple(word) for word in text.split())


FOUR = Frame.full(("a", "b", "c", "d"))
KITE = FOUR.without_rod("c", "d")
WHEEL = Frame(("a", "b", "c", "d", "e"), pairs("ab ac ad ae bc be cd de"))
TWIN = Frame(("a", "b", "c", "d", "e", "f"), pairs("ab ac ad ae af bc bd be bf cd ef"))
THREES = Frame(("a", "b", "c", "d", "e", "f"), pairs("ad ae af bd be bf cd ce cf"))
BOW = Frame(("a", "b", "c", "d", "e"), pairs("ab ac bc cd ce de"))
RING = Frame(("a", "b", "c", "d"), pairs("ab ad bc cd"))
SINGLE = Frame(("a",))
EIGHT = Frame.full(tuple("abcdefgh"))
LOOSE_EIGHT = Frame(tuple("abcdefgh"))
# Two full frames of four pins with one common pin.
JOINED = Frame(tuple("abcdefg"), pairs("ab ac ad bc bd cd de df dg ef eg fg"))

NAMED = (FOUR, KITE, WHEEL, TWIN, THREES, BOW, RING, SINGLE, EIGHT, LOOSE_EIGHT, JOINED)

SQUARE = {"a": (0, 0), "b": (2, 0), "c": (2, 2), "d": (0, 2)}

# The least integers of 2000 and of 2001 digits, and the longest one of 2000 digits.
LONG = 10 ** 1999
LONGEST = 10 ** 2000 - 1
TOO_LONG = 10 ** 2000


def subsets(values):
    """All tuples of some of the values, in their order, the shorter ones first."""
    values = tuple(values)
    for size in range(len(values) + 1):
        yield from itertools.combinations(values, size)


def all_frames(pins):
    """All frames with just these pins."""
    pins = tuple(pins)
    for rods in subsets(itertools.combinations(sorted(pins), 2)):
        yield Frame(pins, rods)


def random_frame(rng, many=None):
    """A frame of some pins, with any of its pairs as rods."""
    if many is None:
        many = rng.randrange(1, 9)
    pins = tuple("abcdefgh"[:many])
    share = rng.random()
    rods = [pair for pair in itertools.combinations(pins, 2) if rng.random() < share]
    return Frame(pins, tuple(rods))


def random_placing(rng, frame, space, size):
    """A placing of a frame with integers from -size to size."""
    return {
        pin: tuple(rng.randrange(-size, size + 1) for _ in range(space))
        for pin in frame.pins
    }
