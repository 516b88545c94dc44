"""Texts that are read from the left, sign by sign."""

from lengthstell.base.words import MAX_LETTERS
from lengthstell.errors import ParseError


class Reading:
    """A text, the index up to which it is read, and the first key in it that stands amiss."""

    def __init__(self, text):
        if not isinstance(text, str):
            raise ParseError(None)
        self._text = text
        self.here = 0
        self.amiss = None

    def sign(self):
        """The next character, or the empty string at the end."""
        return self._text[self.here:self.here + 1]

    def step(self):
        """Takes the next character, whatever it is."""
        self.here += 1

    def take(self, wanted):
        """Takes some characters; refuses the first one that is another one."""
        for letter in wanted:
            if self.sign() != letter:
                raise ParseError(self.here)
            self.here += 1

    def since(self, start):
        """What has been read from an index on."""
        return self._text[start:self.here]

    def take_name(self):
        """Takes and returns a name, as long as it can be."""
        start = self.here
        while self.here < start + MAX_LETTERS and "a" <= self.sign() <= "z":
            self.here += 1
        if self.here == start:
            raise ParseError(start)
        return self.since(start)

    def take_end(self):
        """Refuses a text that goes on."""
        if self.sign() != "":
            raise ParseError(self.here)

    def note_amiss(self, start):
        """Notes that the key that begins at an index stands amiss, unless one ahead of it does."""
        if self.amiss is None:
            self.amiss = start
