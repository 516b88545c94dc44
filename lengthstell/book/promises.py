"""Promises about frames, and what shows that they do not hold."""

from lengthstell.base.fullness import full_count
from lengthstell.base.words import is_integer, is_lot_among, is_pair, is_space
from lengthstell.count.blocks import are_parted, parting, spare_rods, sum_of_lots
from lengthstell.count.counts import is_firm
from lengthstell.count.pebbling import played
from lengthstell.errors import InvalidPromise
from lengthstell.frame.checks import check_frame
from lengthstell.told.told import is_told, is_told_paper, paper_against_told

MAX_FEW = 28


def is_promise(value):
    """Whether the value is a promise."""
    if not isinstance(value, tuple) or len(value) not in (2, 3):
        return False
    if value[0] == "spare":
        return len(value) == 3 and is_pair(value[1]) and is_space(value[2])
    if len(value) == 3:
        return False
    if value[0] == "few":
        return is_integer(value[1]) and 0 <= value[1] <= MAX_FEW
    return value[0] in ("firm", "told") and is_space(value[1])


def does_hold(frame, promise):
    """Whether the promise holds for the frame."""
    check_frame(frame)
    check_promise(promise)
    word, *parts = promise
    if word == "firm":
        return is_firm(frame, space=parts[0])
    if word == "told":
        return is_told(frame, space=parts[0])
    if word == "spare":
        return parts[0] in spare_rods(frame, space=parts[1])
    return len(frame) <= parts[0]


def paper_against(frame, promise):
    """Any paper against the promise, or None if it holds."""
    if does_hold(frame, promise):
        return None
    word, *parts = promise
    if word == "firm":
        return ("loose", parting(frame, space=parts[0]))
    if word == "told":
        return paper_against_told(frame, parts[0])
    if word == "spare":
        return _paper_against_spare(frame, parts[0], parts[1])
    return ("many", len(frame))


def is_paper_against(frame, promise, value):
    """Whether the value is a paper against the promise."""
    check_frame(frame)
    check_promise(promise)
    if not isinstance(value, tuple) or len(value) not in (2, 3):
        return False
    word, *parts = promise
    if word == "firm":
        return _shows_loose(frame, value, parts[0])
    if word == "told":
        return value[0] != "told" and is_told_paper(frame, value, space=parts[0])
    if word == "spare":
        return _shows_not_spare(frame, parts[0], parts[1], value)
    return value[0] == "many" and len(value) == 2 and _shows_many(frame, parts[0], value[1])


def check_promise(promise):
    """Refuses what is no promise."""
    if not is_promise(promise):
        raise InvalidPromise("this is no promise")


def _paper_against_spare(frame, pair, space):
    """What shows that a pair is no spare rod, which is so."""
    if pair not in frame:
        return ("away", pair)
    tails, _ = played(frame.rods, space)
    one, other = pair
    return ("needed", tuple(sorted(tails)), parting(frame.without_rod(one, other), space=space))


def _shows_loose(frame, value, space):
    if value[0] != "loose" or len(value) != 2 or not are_parted(frame.rods, value[1]):
        return False
    return sum_of_lots(value[1], space) < full_count(len(frame.pins), space)


def _shows_not_spare(frame, pair, space, value):
    """Whether the value shows that a pair is no spare rod."""
    if pair not in frame:
        return value == ("away", pair)
    if value[0] != "needed" or len(value) != 3 or not _is_sparse_lot(frame.rods, value[1], space):
        return False
    others = tuple([rod for rod in frame.rods if rod != pair])
    return are_parted(others, value[2]) and sum_of_lots(value[2], space) < len(value[1])


def _is_sparse_lot(rods, value, space):
    """Whether the value is a sparse lot of some of the rods."""
    if not is_lot_among(rods, value):
        return False
    tails, _ = played(value, space)
    return len(tails) == len(value)


def _shows_many(frame, most, number):
    return is_integer(number) and number == len(frame) and number > most
