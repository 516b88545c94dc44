"""Build rows of frames, and free placings."""

from lengthstell.base.elimination import rank_of
from lengthstell.base.fullness import full_count
from lengthstell.base.words import are_names, is_pair
from lengthstell.count.counts import count_rank, is_firm, is_sparse
from lengthstell.count.pebbling import played
from lengthstell.errors import InvalidStep, Refused
from lengthstell.frame.checks import check_frame, check_space
from lengthstell.frame.frames import Frame, pairs_among
from lengthstell.place.checks import are_spots
from lengthstell.place.placings import rod_rows

MOST_STEPS = 7
# By the document a free spot for one pin more is always found from 0 to 24.
GRID = 25


def frame_built(row):
    """The frame that a build row makes."""
    found = _made_by(row)
    if found is None:
        raise InvalidStep("this is no build row")
    return found


def build_row(frame):
    """Any build row that makes the frame."""
    check_frame(frame)
    if len(frame.pins) == 1:
        raise Refused(("pin",))
    if not is_sparse(frame):
        raise Refused(("crowd",))
    if not is_firm(frame):
        raise Refused(("loose",))
    return _row_making(frame)


def is_build_row(frame, value):
    """Whether the value is a build row that makes the frame."""
    check_frame(frame)
    return _made_by(value) == frame


def free_placing(frame, *, space=2):
    """Any free placing of the frame."""
    check_frame(frame)
    check_space(space)
    if space == 1 or len(frame.pins) == 1:
        return {pin: (at,) + (0,) * (space - 1) for at, pin in enumerate(frame.pins)}
    return _freely_placed(_row_making(_firm_frame(frame)))


def is_free_placing(frame, value, *, space=2):
    """Whether the value is a free placing of the frame."""
    check_frame(frame)
    check_space(space)
    if not are_spots(frame.pins, value, space):
        return False
    spots = [value[pin] for pin in frame.pins]
    if not all([_is_off(spots[at], spots[:at]) for at in range(len(spots))]):
        return False
    most = count_rank(frame, space=space)
    return rank_of(rod_rows(frame, value), len(spots) * space, most) == most


def frame_with(frame, step):
    """The frame behind a step that adds a pin to it."""
    if step[0] == "three":
        frame = frame.without_rod(step[2], step[3])
    pin, *neighbours = step[1:]
    return frame.with_pin(pin, *neighbours)


def frame_ahead(frame, step):
    """The frame ahead of its last step, which has added a pin."""
    ahead = frame.without_pin(step[1])
    if step[0] == "three":
        ahead = ahead.with_rod(step[2], step[3])
    return ahead


def _made_by(value):
    """The frame that a build row makes, or None for another value."""
    if not isinstance(value, tuple) or not 1 <= len(value) <= MOST_STEPS:
        return None
    if not _is_start(value[0]):
        return None
    frame = Frame(value[0][1:], (value[0][1:],))
    for step in value[1:]:
        if not _is_further_step(frame, step):
            return None
        frame = frame_with(frame, step)
    return frame


def _is_start(step):
    if not isinstance(step, tuple) or len(step) != 3:
        return False
    return step[0] == "start" and is_pair(step[1:])


def _is_further_step(frame, step):
    """Whether a value is a step that adds a pin to the frame."""
    if not isinstance(step, tuple) or len(step) not in (4, 5) or not are_names(step[1:]):
        return False
    pin, one, other = step[1:4]
    if pin in frame.pins or one not in frame.pins or other not in frame.pins or not one < other:
        return False
    if len(step) == 4:
        return step[0] == "two"
    third = step[4]
    if third not in frame.pins or third in (one, other):
        return False
    return step[0] == "three" and (one, other) in frame


def _row_making(frame):
    """A build row of a frame that is firm and whose rods are sparse, found from behind."""
    steps = []
    while len(frame.pins) > 2:
        step = _last_step(frame)
        steps.append(step)
        frame = frame_ahead(frame, step)
    steps.append(("start",) + frame.pins)
    return tuple(reversed(steps))


def _last_step(frame):
    """A step that a build row of the frame can end with."""
    around = [(len(frame.neighbours(pin)), pin, frame.neighbours(pin)) for pin in frame.pins]
    many, pin, others = min(around)
    if many == 2:
        return ("two", pin) + others
    # The fewest rods of a pin are three then, and the pairs that will do are to be tried.
    for one, other in pairs_among(others):
        third = [rest for rest in others if rest != one and rest != other]
        step = ("three", pin, one, other) + tuple(third)
        if (one, other) not in frame and is_sparse(frame_ahead(frame, step)):
            return step
    return None


def _firm_frame(frame):
    """A firm frame of the same pins whose rods are sparse, as many of them of the frame as can be."""
    tails, _ = played(frame.rods + frame.missing, 2)
    return Frame(frame.pins, tuple(tails))


def _freely_placed(row):
    """A free placing in the plane of the frame that a build row makes."""
    frame = Frame(row[0][1:], (row[0][1:],))
    placing = {row[0][1]: (0, 0), row[0][2]: (0, 1)}
    for step in row[1:]:
        frame = frame_with(frame, step)
        placing[step[1]] = _free_spot(frame, placing, step)
    return {pin: placing[pin] for pin in frame.pins}


def _free_spot(frame, placing, step):
    """A spot for the pin of the last step that makes the placing of the frame free."""
    spots = list(placing.values())
    for across in range(GRID):
        for up in range(GRID):
            if _is_off((across, up), spots) and _is_firm_with(frame, placing, step, (across, up)):
                return (across, up)
    return None


def _is_firm_with(frame, placing, step, spot):
    """Whether the placing with a spot for the pin of the last step is firm."""
    if step[0] == "two":
        # Such a pin is held wherever it is not on the line through its two neighbours.
        return True
    longer = {pin: placing[pin] for pin in placing}
    longer[step[1]] = spot
    most = full_count(len(frame.pins), 2)
    return rank_of(rod_rows(frame, longer), 2 * len(frame.pins), most) == most


def _is_off(spot, spots):
    """Whether a spot is none of others and, in the plane, on no line through two of them."""
    if spot in spots:
        return False
    if len(spot) == 1:
        return True
    away = [(across - spot[0], up - spot[1]) for across, up in spots]
    for at in range(len(away)):
        across, up = away[at]
        for further, higher in away[:at]:
            if across * higher == up * further:
                return False
    return True
