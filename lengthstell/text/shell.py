"""A shell: a desk that is told lines."""

from lengthstell.base.words import is_name
from lengthstell.book.desks import Desk
from lengthstell.book.promises import does_hold, paper_against
from lengthstell.count.counts import count_rank
from lengthstell.errors import (
    FrameError,
    InvalidNumber,
    InvalidOperation,
    NothingToUndo,
    Refused,
    TooMany,
    UnknownName,
)
from lengthstell.frame.frames import pair_of
from lengthstell.text.formats import write_data, write_frame

MAX_LINE = 2000
MAX_LINES = 100
# In the forms of lines A stands for a name, R for a rod, S for a space, and N for a number.
COMMANDS = (
    ("show",),
    ("rod", "R"),
    ("no", "rod", "R"),
    ("no", "pin", "A"),
    ("promises",),
    ("undo",),
    ("undo", "N"),
    ("lot",),
    ("end",),
    ("cancel",),
    ("count", "S"),
)
ABOUT_PROMISES = ("promise", "drop", "ask", "why")
PROMISES = (("firm", "S"), ("told", "S"), ("spare", "R", "S"), ("few", "N"))


class Shell:
    """A desk of its own, at most one open lot of it, and the lines that were said."""

    def __init__(self, frame):
        self._desk = Desk(frame)
        self._lot = None
        self._lines = []

    @property
    def frame(self):
        """The frame of the open lot, or that of the desk if none is open."""
        if self._lot is None:
            return self._desk.frame
        return self._lot.frame

    @property
    def promises(self):
        """The promises of the desk."""
        return self._desk.promises

    @property
    def version(self):
        """The version of the desk."""
        return self._desk.version

    def say(self, line):
        """Does what a line tells; its answer."""
        if not _is_line(line):
            raise InvalidOperation("this is no line")
        self._lines.append(line)
        pieces = line.split()
        if len(pieces) == 0:
            return ""
        told = _told_by(pieces)
        if told is None:
            return f"wrong at {_first_wrong(pieces)}"
        if told[0] in ("end", "cancel") and self._lot is None:
            return "no lot"
        return self._tried(told)

    def run(self, lines):
        """Says some lines, one behind the other; the tuple of their answers."""
        if not isinstance(lines, tuple) or len(lines) > MAX_LINES or not all([_is_line(line) for line in lines]):
            raise InvalidOperation("these are no lines, or too many")
        return tuple([self.say(line) for line in lines])

    def _tried(self, told):
        """The answer to what a line tells, also if it cannot be done."""
        try:
            return self._answer(told)
        except Refused as refusal:
            return _refusal_told(refusal.reason)
        except TooMany:
            return "too many"
        except NothingToUndo:
            return "no more"
        except UnknownName:
            return "unknown"
        except (FrameError, InvalidNumber):
            return "invalid"

    def _answer(self, told):
        """Does what a line tells; its answer."""
        word, *rest = told
        if word in ABOUT_PROMISES:
            return self._answer_about(word, tuple(rest))
        if word in ("rod", "no", "pin"):
            return self._deed_done(_deed_told(told))
        if word == "show":
            return write_frame(self.frame)
        if word == "count":
            return str(count_rank(self.frame, space=rest[0]))
        if word == "promises":
            return ", ".join([_promise_told(promise) for promise in self.promises]) or "none"
        if word == "undo":
            return _version_told(self._desk.undo(*rest))
        if word == "lot":
            self._lot = self._desk.lot()
            return "open"
        return self._lot_closed(word)

    def _answer_about(self, word, promise):
        """Does what a line tells about a promise; its answer."""
        if word == "promise":
            return "new" if self._desk.promise(promise) else "there"
        if word == "drop":
            return _version_told(self._desk.drop(promise))
        if word == "ask":
            return "yes" if does_hold(self.frame, promise) else "no"
        paper = paper_against(self.frame, promise)
        return "none" if paper is None else write_data(paper)

    def _deed_done(self, deed):
        if self._lot is None:
            return _version_told(self._desk.do((deed,)))
        self._lot.add(deed)
        return "taken"

    def _lot_closed(self, word):
        """Ends or drops the lot, which is closed then in any case."""
        lot = self._lot
        self._lot = None
        if word == "end":
            return _version_told(lot.end())
        lot.drop()
        return "dropped"

    def __len__(self):
        return len(self._lines)

    def __str__(self):
        return f"shell at version {self.version}, {len(self.promises)} promises"


def _is_line(value):
    """Whether the value is a string of at most 2000 printable ASCII characters."""
    if not isinstance(value, str) or len(value) > MAX_LINE:
        return False
    return all([" " <= sign <= "~" for sign in value])


def _forms(many):
    """All forms of lines of so many pieces, and others."""
    about = [(word,) + form for word in ABOUT_PROMISES for form in PROMISES]
    return [*COMMANDS, *about, ("pin",) + ("A",) * max(1, many - 1)]


def _agreed(form, pieces):
    """How many pieces from the first one on can stand where a form has them."""
    many = 0
    for kind, piece in zip(form, pieces):
        if not _can_stand(kind, piece):
            return many
        many += 1
    return many


def _can_stand(kind, piece):
    """Whether a piece is of a kind, or is the word that is asked for."""
    if kind == "A":
        return is_name(piece)
    if kind == "R":
        ends = piece.split("-")
        return len(ends) == 2 and ends[0] != ends[1] and all([is_name(end) for end in ends])
    if kind == "S":
        return piece in ("1", "2")
    if kind == "N":
        return _is_number(piece)
    return piece == kind


def _is_number(piece):
    """Whether a piece is one to three digits without zeros ahead."""
    if len(piece) > 3 or not all(["0" <= sign <= "9" for sign in piece]):
        return False
    return piece == "0" or not piece.startswith("0")


def _told_by(pieces):
    """What the pieces of a line tell, as a tuple, or None if they do not stand as in any form."""
    for form in _forms(len(pieces)):
        if len(form) == len(pieces) and _agreed(form, pieces) == len(pieces):
            return tuple([_value_of(kind, piece) for kind, piece in zip(form, pieces)])
    return None


def _first_wrong(pieces):
    """The index of the first piece that stands where no form has it, or their number if they end too early."""
    return max([_agreed(form, pieces) for form in _forms(len(pieces))])


def _value_of(kind, piece):
    """What a piece of a kind stands for."""
    if kind == "R":
        one, other = piece.split("-")
        return pair_of(one, other)
    if kind in ("S", "N"):
        return int(piece)
    return piece


def _deed_told(told):
    """The deed that a line tells."""
    if told[0] == "no":
        return (f"no {told[1]}", told[2])
    if told[0] == "pin":
        return ("pin", told[1], tuple(sorted(set(told[2:]))))
    return told


def _refusal_told(reason):
    """The answer for a deed that fails, or a promise that would be broken."""
    if reason[0] == "deed":
        return f"failed {reason[2]}"
    return f"broken {_promise_told(reason[1])}"


def _version_told(version):
    return f"version {version}"


def _promise_told(promise):
    """A promise as in a line."""
    return " ".join(["-".join(part) if isinstance(part, tuple) else str(part) for part in promise])
