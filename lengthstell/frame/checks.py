"""The errors that the common parameters about frames raise."""

from lengthstell.base.words import is_space
from lengthstell.errors import InvalidFrame, InvalidNumber, InvalidOperation, InvalidRod
from lengthstell.frame.frames import Frame, is_lot_of


def check_frame(frame):
    """Refuses what is no frame."""
    if not isinstance(frame, Frame):
        raise InvalidFrame("this is no frame")


def check_rod(frame, rod):
    """Refuses what is no rod of the frame."""
    if rod not in frame.rods:
        raise InvalidRod("this is no rod of the frame")


def check_lot(frame, lot):
    """Refuses what is no lot of pins of the frame."""
    if not is_lot_of(frame.pins, lot):
        raise InvalidOperation("this is no lot of pins of the frame")


def check_space(space):
    """Refuses what is no space."""
    if not is_space(space):
        raise InvalidNumber(space)
