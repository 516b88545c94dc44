"""Desks: frames that are changed by deeds and keep promises."""

from lengthstell.base.words import is_integer, is_lot, is_name, is_pair
from lengthstell.book.promises import check_promise, does_hold, is_promise, paper_against
from lengthstell.errors import InvalidNumber, InvalidOperation, NothingToUndo, Refused, TooMany, UnknownName
from lengthstell.frame.checks import check_frame
from lengthstell.frame.frames import MAX_PINS

MAX_PROMISES = 8
MAX_DEEDS = 20


class Desk:
    """A frame and the promises that it keeps, in versions."""

    def __init__(self, frame):
        check_frame(frame)
        self._frame = frame
        self._promises = ()
        self._past = []
        self._last_lot = None

    @property
    def frame(self):
        """The frame of the present version."""
        return self._frame

    @property
    def promises(self):
        """The promises of the present version, in the order in which they were made."""
        return self._promises

    @property
    def version(self):
        """The number of the present version."""
        return len(self._past)

    def do(self, deeds):
        """Does deeds one behind the other; the version behind them."""
        self._check_no_lot()
        return self._take(_frame_behind(self._frame, deeds))

    def would(self, deeds):
        """The promises that do not hold for the frame behind the deeds."""
        frame = _frame_behind(self._frame, deeds)
        return tuple([promise for promise in self._promises if not does_hold(frame, promise)])

    def promise(self, promise):
        """Puts a promise behind the others; whether it is new."""
        self._check_no_lot()
        check_promise(promise)
        _check_kept(self._frame, promise)
        if promise in self._promises:
            return False
        if len(self._promises) == MAX_PROMISES:
            raise TooMany(MAX_PROMISES)
        self._go_on(self._frame, self._promises + (promise,))
        return True

    def drop(self, promise):
        """Takes a promise out; the version behind this."""
        self._check_no_lot()
        check_promise(promise)
        if promise not in self._promises:
            raise UnknownName(promise)
        self._go_on(self._frame, tuple([kept for kept in self._promises if kept != promise]))
        return self.version

    def undo(self, count=1):
        """Goes so many versions back; the version then."""
        self._check_no_lot()
        if not is_integer(count) or count < 1:
            raise InvalidNumber(count)
        if count > self.version:
            raise NothingToUndo(count)
        self._frame, self._promises = self._past[-count]
        self._past = self._past[:-count]
        return self.version

    def at(self, version):
        """A new desk with the frame and the promises of a version."""
        if not is_integer(version) or not 0 <= version <= self.version:
            raise InvalidNumber(version)
        versions = self._past + [(self._frame, self._promises)]
        desk = Desk(self._frame)
        desk._frame, desk._promises = versions[version]
        return desk

    def lot(self):
        """A new lot, which is open."""
        self._check_no_lot()
        self._last_lot = Lot(self)
        return self._last_lot

    def _check_no_lot(self):
        if self._last_lot is not None and self._last_lot.is_open:
            raise InvalidOperation("a lot of the desk is open")

    def _take(self, frame):
        """Takes a frame in the place of the present one if it keeps all promises; the version then."""
        for promise in self._promises:
            _check_kept(frame, promise)
        if frame != self._frame:
            self._go_on(frame, self._promises)
        return self.version

    def _go_on(self, frame, promises):
        """Makes the next version."""
        self._past.append((self._frame, self._promises))
        self._frame = frame
        self._promises = promises

    def __contains__(self, x):
        return is_promise(x) and x in self._promises

    def __len__(self):
        return len(self._promises)

    def __iter__(self):
        return iter(self._promises)

    def __eq__(self, other):
        return isinstance(other, Desk) and self._frame == other._frame and self._promises == other._promises

    def __str__(self):
        pins = len(self._frame.pins)
        return f"desk of {pins} pins, {len(self._frame)} rods, {len(self._promises)} promises"


class Lot:
    """Deeds that a desk does together; only `lot` of a desk makes it."""

    def __init__(self, desk):
        self._desk = desk
        self._frame = desk.frame
        self._many = 0
        self._is_open = True

    @property
    def frame(self):
        """The frame behind the deeds that the lot has."""
        return self._frame

    @property
    def is_open(self):
        """Whether deeds can be added."""
        return self._is_open

    def add(self, deed):
        """Takes a further deed; how many deeds the lot has then."""
        self._check_open()
        if not _is_deed(deed):
            raise InvalidOperation("this is no deed")
        word = _failure(self._frame, deed)
        if word is not None:
            raise Refused(("deed", self._many, word))
        self._frame = _done(self._frame, deed)
        self._many += 1
        return self._many

    def end(self):
        """Closes the lot, and does its deeds; the version of the desk then."""
        self._check_open()
        self._is_open = False
        return self._desk._take(self._frame)

    def drop(self):
        """Closes the lot, and nothing is done."""
        self._check_open()
        self._is_open = False

    def _check_open(self):
        if not self._is_open:
            raise InvalidOperation("the lot is closed")

    def __enter__(self):
        self._check_open()
        return self

    def __exit__(self, kind, value, trace):
        self._is_open = False


def _is_deed(value):
    """Whether the value is a deed."""
    if not isinstance(value, tuple) or len(value) not in (2, 3):
        return False
    if len(value) == 3:
        return value[0] == "pin" and is_name(value[1]) and is_lot(value[2])
    if value[0] == "no pin":
        return is_name(value[1])
    return value[0] in ("rod", "no rod") and is_pair(value[1])


def _failure(frame, deed):
    """The word of why a deed fails, or None if it does not."""
    if not all([pin in frame.pins for pin in _pins_needed(deed)]):
        return "unknown"
    word = deed[0]
    if (word == "rod" and deed[1] in frame) or (word == "pin" and deed[1] in frame.pins):
        return "there"
    if word == "no rod" and deed[1] not in frame:
        return "missing"
    if word == "pin" and len(frame.pins) == MAX_PINS:
        return "many"
    if word == "no pin" and len(frame.pins) == 1:
        return "last"
    return None


def _pins_needed(deed):
    """The pins that a frame must have for a deed."""
    if deed[0] == "pin":
        return deed[2]
    if deed[0] == "no pin":
        return (deed[1],)
    return deed[1]


def _done(frame, deed):
    """The frame behind a deed that does not fail."""
    if deed[0] == "pin":
        _, pin, others = deed
        return frame.with_pin(pin, *others)
    if deed[0] == "no pin":
        return frame.without_pin(deed[1])
    one, other = deed[1]
    if deed[0] == "rod":
        return frame.with_rod(one, other)
    return frame.without_rod(one, other)


def _frame_behind(frame, deeds):
    """The frame behind deeds; refuses what are no deeds, and the first one that fails."""
    if not isinstance(deeds, tuple) or not 1 <= len(deeds) <= MAX_DEEDS:
        raise InvalidOperation("the deeds are no tuple of 1 to 20 deeds")
    if not all([_is_deed(deed) for deed in deeds]):
        raise InvalidOperation("one of the deeds is none")
    for at, deed in enumerate(deeds):
        word = _failure(frame, deed)
        if word is not None:
            raise Refused(("deed", at, word))
        frame = _done(frame, deed)
    return frame


def _check_kept(frame, promise):
    """Refuses a frame for which a promise does not hold."""
    paper = paper_against(frame, promise)
    if paper is not None:
        raise Refused(("broken", promise, paper))
