"""Steps by which all frames come that are told in the plane."""

from lengthstell.base.words import is_lot, is_name
from lengthstell.errors import InvalidName, InvalidPlacing, InvalidStep, Refused, TooMany, UnknownName
from lengthstell.frame.checks import check_frame, check_rod
from lengthstell.frame.frames import MAX_PINS, Frame, pairs_among
from lengthstell.place.built import frame_ahead, frame_with
from lengthstell.place.checks import check_placing, check_weights, space_in
from lengthstell.told.telling import is_told_by_counts


def last_steps(frame):
    """All steps but the first one with which some told row of the frame ends, ascending."""
    check_frame(frame)
    if len(frame.pins) <= 4 or not _is_told(frame):
        return ()
    return tuple(sorted([step for step in _possible_steps(frame) if _is_told(_ahead(frame, step))]))


def told_row(frame):
    """Any told row of the frame, or None."""
    check_frame(frame)
    if len(frame.pins) <= 3 or not _is_told(frame):
        return None
    steps = []
    while len(frame.pins) > 4:
        step = _some_last_step(frame)
        steps.append(step)
        frame = _ahead(frame, step)
    # A told frame of four pins is full.
    steps.append(("full",) + frame.pins)
    return tuple(reversed(steps))


def is_told_row(frame, value):
    """Whether the value is a told row of the frame."""
    check_frame(frame)
    return _made_by(value) == frame


def frame_of_row(row):
    """The frame of a told row."""
    found = _made_by(row)
    if found is None:
        raise InvalidStep("this is no told row")
    return found


def split(frame, placing, weights, rod, pin, third):
    """The frame, the placing and the weights behind the split of a rod."""
    check_frame(frame)
    check_placing(frame, placing)
    if space_in(placing) != 2:
        raise InvalidPlacing("this is no placing in the plane")
    check_weights(frame, weights)
    check_rod(frame, rod)
    if not is_name(pin) or pin in frame.pins:
        raise InvalidName("this is no new name")
    if third not in frame.pins or third in rod:
        raise UnknownName(third)
    if len(frame.pins) == MAX_PINS:
        raise TooMany(MAX_PINS)
    if weights[rod] == 0:
        raise Refused(("weight",))
    one, other = rod
    if _are_on_line(placing[one], placing[other], placing[third]):
        raise Refused(("line",))
    wide = frame_with(frame, ("three", pin, one, other, third))
    return wide, _split_placing(wide, placing, rod, pin), _split_weights(wide, weights, rod, pin, third)


def _is_told(frame):
    return is_told_by_counts(frame.pins, frame.rods, 2)


def _possible_steps(frame):
    """All steps that could be the last one, if the frame ahead of them is told."""
    steps = [("rod",) + rod for rod in frame.rods]
    for pin in frame.pins:
        others = frame.neighbours(pin)
        if len(others) == 3:
            for pair in pairs_among(others):
                third = [rest for rest in others if rest not in pair]
                if pair not in frame.rods:
                    steps.append(("three", pin) + pair + tuple(third))
    return steps


def _some_last_step(frame):
    """A step with which some told row of a told frame of five or more pins ends."""
    for step in _possible_steps(frame):
        if _is_told(_ahead(frame, step)):
            return step
    return None


def _ahead(frame, step):
    """The frame ahead of its last step."""
    if step[0] == "rod":
        return frame.without_rod(step[1], step[2])
    return frame_ahead(frame, step)


def _made_by(value):
    """The frame of a told row, or None for another value."""
    if not isinstance(value, tuple) or len(value) == 0 or not _is_first_step(value[0]):
        return None
    frame = Frame.full(value[0][1:])
    for step in value[1:]:
        if _is_rod_step(frame, step):
            frame = frame.with_rod(step[1], step[2])
        elif _is_three_step(frame, step):
            frame = frame_with(frame, step)
        else:
            return None
    return frame


def _is_first_step(step):
    if not isinstance(step, tuple) or len(step) != 5:
        return False
    return step[0] == "full" and is_lot(step[1:])


def _is_rod_step(frame, step):
    """Whether a value is a step that adds a rod to the frame."""
    if not isinstance(step, tuple) or len(step) != 3 or step[0] != "rod":
        return False
    return step[1:] in frame.missing


def _is_three_step(frame, step):
    """Whether a value is a step that puts a pin with three rods into the frame."""
    if not isinstance(step, tuple) or len(step) != 5 or step[0] != "three":
        return False
    if not is_name(step[1]) or step[1] in frame.pins or len(frame.pins) == MAX_PINS:
        return False
    return step[2:4] in frame.rods and step[4] in frame.pins and step[4] not in step[2:4]


def _are_on_line(one, other, third):
    """Whether three spots lie on one line, or the first two at one spot."""
    along = (other[0] - one[0], other[1] - one[1])
    away = (third[0] - one[0], third[1] - one[1])
    return along[0] * away[1] == along[1] * away[0]


def _split_placing(wide, placing, rod, pin):
    """The doubled spots, and the middle of the rod for the new pin."""
    one, other = rod
    spots = {old: (2 * placing[old][0], 2 * placing[old][1]) for old in placing}
    spots[pin] = (placing[one][0] + placing[other][0], placing[one][1] + placing[other][1])
    return {each: spots[each] for each in wide.pins}


def _split_weights(wide, weights, rod, pin, third):
    """The weights, with those of the rods of the new pin in the place of that of the split one."""
    found = {}
    for pair in wide.rods:
        if pin not in pair:
            found[pair] = weights[pair]
        elif third in pair:
            found[pair] = 0
        else:
            found[pair] = 2 * weights[rod]
    return found
