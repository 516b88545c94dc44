"""Whether its lengths tell a frame, and the papers that show it or the opposite."""

from lengthstell.base.elimination import is_sum_of_squares, rank_of
from lengthstell.base.fullness import full_count
from lengthstell.count.blocks import are_parted, parting, spare_rods, sum_of_lots
from lengthstell.count.counts import is_firm
from lengthstell.frame.checks import check_frame, check_space
from lengthstell.frame.cuts import cuts, sides
from lengthstell.frame.frames import is_lot_of
from lengthstell.place.checks import are_spots, are_weights
from lengthstell.place.placings import is_balance, is_firm_at, weight_table
from lengthstell.told.rows import check_few_pins, come_of, rows_tried
from lengthstell.told.telling import depth_of, is_told_by_counts


def is_told(frame, *, space=2):
    """Whether the frame is told."""
    check_frame(frame)
    check_space(space)
    return is_told_by_counts(frame.pins, frame.rods, space)


def told_paper(frame, *, space=2):
    """Any paper of the frame."""
    check_frame(frame)
    check_space(space)
    check_few_pins(frame)
    if is_told_by_counts(frame.pins, frame.rods, space):
        return _paper_for(frame, space)
    return paper_against_told(frame, space)


def is_told_paper(frame, value, *, space=2):
    """Whether the value is a paper of the frame."""
    check_frame(frame)
    check_space(space)
    if not isinstance(value, tuple) or len(value) not in (2, 3):
        return False
    word, *parts = value
    if word == "loose" and len(parts) == 1:
        return _shows_loose(frame, frame.rods, parts[0], space)
    if len(parts) != 2:
        return False
    if word == "told":
        return _shows_told(frame, parts[0], parts[1], space)
    if len(frame.pins) <= space + 1:
        return False
    if word == "cut":
        return _shows_cut(frame, parts[0], parts[1], space)
    return word == "needed" and _shows_needed(frame, parts[0], parts[1], space)


def _paper_for(frame, space):
    """A paper that a told frame is told."""
    attempt = 0
    while True:
        rows = rows_tried(frame, space, attempt)
        if rows is not None:
            placing, weights = come_of(frame, rows, space)
            if is_firm_at(frame, placing):
                return ("told", placing, weights)
        attempt += 1


def paper_against_told(frame, space):
    """A paper that a frame is not told, which is so; the frame can have any number of pins."""
    if not is_firm(frame, space=space):
        return ("loose", parting(frame, space=space))
    lots = cuts(frame, space)
    if len(lots) > 0:
        return ("cut", lots[0], sides(frame, lots[0])[0])
    spare = spare_rods(frame, space=space)
    needed = [rod for rod in frame.rods if rod not in spare]
    one, other = needed[0]
    return ("needed", needed[0], parting(frame.without_rod(one, other), space=space))


def _shows_told(frame, placing, weights, space):
    """Whether a placing and weights show that the frame is told."""
    if not are_spots(frame.pins, placing, space) or not are_weights(frame.rods, weights):
        return False
    if not is_balance(frame, placing, weights) or not is_firm_at(frame, placing):
        return False
    table = weight_table(frame, weights)
    most = depth_of(len(table), space)
    # The table of weights in balance has no greater rank in a firm placing.
    return rank_of(table, len(table), most) == most and is_sum_of_squares(table)


def _shows_cut(frame, lot, side, space):
    """Whether a lot cuts a side off from other pins of the frame."""
    if not is_lot_of(frame.pins, lot) or len(lot) != space:
        return False
    if not is_lot_of(frame.pins, side) or side == () or any([pin in lot for pin in side]):
        return False
    beyond = [pin for pin in frame.pins if pin not in lot and pin not in side]
    if len(beyond) == 0:
        return False
    return not any([
        (one in side and other in beyond) or (one in beyond and other in side)
        for one, other in frame.rods
    ])


def _shows_needed(frame, rod, value, space):
    """Whether a parting shows that the frame is loose without a rod."""
    if rod not in frame.rods:
        return False
    return _shows_loose(frame, tuple([other for other in frame.rods if other != rod]), value, space)


def _shows_loose(frame, rods, value, space):
    """Whether a parting of some rods shows that these do not make the frame firm."""
    return are_parted(rods, value) and sum_of_lots(value, space) < full_count(len(frame.pins), space)
