"""The errors that the package raises."""


class FrameError(ValueError):
    """The base of all errors that tell by a message what is invalid."""


class InvalidName(FrameError):
    """A value that should be a name is none."""


class InvalidFrame(FrameError):
    """A value that should be a frame is none, or there is no such frame."""


class InvalidRod(FrameError):
    """A value that should be a rod of a frame is none, or a rod is in the way."""


class InvalidPlacing(FrameError):
    """A value that should be a placing is none."""


class InvalidWeights(FrameError):
    """A value that should be weights of a frame is none."""


class InvalidStep(FrameError):
    """A value that should be a row of steps is none."""


class InvalidStand(FrameError):
    """A value that should be a stand is none, or there is no such stand."""


class InvalidDirections(FrameError):
    """A value that should be directions of a stand is none."""


class InvalidPromise(FrameError):
    """A value that should be a promise is none."""


class InvalidOperation(FrameError):
    """An argument that no other error is told for is invalid."""


class ParseError(FrameError):
    """A text goes wrong at a spot."""

    def __init__(self, spot):
        self.spot = spot


class InvalidNumber(IndexError):
    """A number that was given is none of those that are asked for."""

    def __init__(self, given):
        self.given = given


class UnknownName(KeyError):
    """What was wanted is not there."""

    def __init__(self, wanted):
        self.wanted = wanted


class TooMany(OverflowError):
    """There would be more than the most that there can be."""

    def __init__(self, most):
        self.most = most


class Refused(ArithmeticError):
    """All arguments are valid, but what is asked for cannot be done for a reason."""

    def __init__(self, reason):
        self.reason = reason


class NothingToUndo(LookupError):
    """There are fewer versions than should be undone."""

    def __init__(self, count):
        self.count = count
