"""Which texts go on, sign by sign: slow answers by other ways than the package reads texts."""

import itertools
import re

NAME = "[a-z]{1,4}"
FRAME_TEXT = f"{NAME}(?: {NAME})*(?::(?: {NAME}-{NAME})+)?"
STAND_TEXT = FRAME_TEXT + rf"(?:;(?: {NAME}\*\*?)+)?"
# Each beginning of such a text is made a whole one by one of these.
TAILS = ("", "a", "-a", "a-a", " a-a", "*", "a*", " a*")
PLAIN = {chr(number) for number in range(32, 127)} - set("'\"\\")


def wrong_index(pattern, text):
    """The index that ParseError tells for a text of frames or stands, or None if it is one."""
    if re.fullmatch(pattern, text):
        return None
    for at in range(len(text)):
        if not any(re.fullmatch(pattern, text[:at + 1] + tail) for tail in TAILS):
            return at
    return len(text)


class Signs:
    """Takes the signs of a text of data one by one, with a stack of the open brackets.

    Each open bracket is a list of its sign, of how many commas it has, and of whether
    it is a key. `wanted` tells what comes next: a value, the first thing behind a
    bracket, what stands behind a value or behind the first comma of a tuple; a
    member, a key or a value that told signs stand ahead of.
    """

    def __init__(self):
        self.brackets = []
        self.wanted = "value"
        self.token = None

    def take(self, sign):
        """Whether the text goes on with a sign; it is taken then."""
        if self.token is not None:
            done = self.go_on(sign)
            if done is not None:
                return done
        if self.wanted == "comma":
            # Behind the first comma of a tuple it can end.
            if sign == ")":
                self.close()
                return True
            self.wanted = " member"
        if self.wanted == "behind":
            return self.take_behind(sign)
        if self.wanted[0] in " :":
            if sign != self.wanted[0]:
                return False
            self.wanted = self.wanted[1:]
            return True
        return self.take_first(sign)

    def go_on(self, sign):
        """Goes on with a word, an integer or a string; None if it has ended ahead of the sign."""
        kind, so_far = self.token
        if kind == "word":
            rest = so_far
            if sign != rest[0]:
                return False
            self.token = ("word", rest[1:]) if rest[1:] else None
            return True
        if kind == "string":
            if sign == "'":
                self.token = None
                return True
            if sign not in PLAIN or so_far == 40:
                return False
            self.token = ("string", so_far + 1)
            return True
        if so_far == "-":
            if sign not in tuple("123456789"):
                return False
        elif so_far == "0" or sign not in tuple("0123456789"):
            self.token = None
            return None
        elif len(so_far.lstrip("-")) == 2000:
            return False
        self.token = ("integer", so_far + sign)
        return True

    def take_first(self, sign):
        """Takes the first sign of something that is wanted."""
        in_key = bool(self.brackets) and self.brackets[-1][2]
        if self.wanted == "first" and not in_key and sign == {"(": ")", "{": "}"}[self.brackets[-1][0]]:
            self.brackets.pop()
            self.wanted = "behind"
            return True
        wants_key = bool(self.brackets) and self.brackets[-1][0] == "{" and self.wanted != "value"
        if sign == "(" and not in_key and len(self.brackets) < 8:
            self.brackets.append(["(", 0, wants_key])
            self.wanted = "first"
            return True
        if sign == "{" and not in_key and not wants_key and len(self.brackets) < 8:
            self.brackets.append(["{", 0, False])
            self.wanted = "first"
            return True
        if sign == "'":
            self.token = ("string", 0)
        elif sign in tuple("-0123456789") and not wants_key:
            self.token = ("integer", sign)
        elif sign in tuple("NTF") and not wants_key and not in_key:
            self.token = ("word", {"N": "one", "T": "rue", "F": "alse"}[sign])
        else:
            return False
        self.wanted = ": value" if wants_key else "behind"
        return True

    def take_behind(self, sign):
        """Takes a sign behind a value."""
        if not self.brackets:
            return False
        kind, many, _ = self.brackets[-1]
        if sign == ",":
            self.brackets[-1][1] += 1
            self.wanted = "comma" if kind == "(" and many == 0 else " key" if kind == "{" else " member"
            return True
        if sign == ("}" if kind == "{" else ")") and (kind == "{" or many > 0):
            self.close()
            return True
        return False

    def close(self):
        is_key = self.brackets.pop()[2]
        self.wanted = ": value" if is_key else "behind"

    def can_end(self):
        return not self.brackets and self.wanted == "behind" and (
            self.token is None or self.token[0] == "integer" and self.token[1] != "-"
        )


def wrong_data_index(text):
    """The index at which no text of data goes on, in which the order of keys does not matter, or None."""
    reader = Signs()
    for at, sign in enumerate(text):
        if not reader.take(sign):
            return at
    return None if reader.can_end() else len(text)


def do_fit(one, other):
    """Whether two keys can stand in one dict, and the second one behind the first one, by 16.3."""
    if isinstance(one, str) or isinstance(other, str):
        return isinstance(one, str) and isinstance(other, str) and one < other
    for part, against in itertools.zip_longest(one, other):
        if part is None or against is None:
            return part is None
        if part != against:
            return isinstance(part, str) == isinstance(against, str) and part < against
    return False
