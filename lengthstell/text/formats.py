"""Texts of frames, of stands and of data."""

from lengthstell.base.words import MAX_DIGITS, is_integer
from lengthstell.errors import InvalidOperation, InvalidStand, ParseError, TooMany
from lengthstell.frame.checks import check_frame
from lengthstell.frame.frames import Frame, pair_of
from lengthstell.ground.stands import Stand, check_stand
from lengthstell.text.reading import Reading

MAX_TEXT = 100000
MAX_STRING = 40
MAX_DEEP = 8
# Each of these words is told by its first letter.
WORDS = {"N": ("None", None), "T": ("True", True), "F": ("False", False)}


def write_frame(frame):
    """The text of a frame."""
    check_frame(frame)
    return _text_of_frame(frame)


def read_frame(text):
    """The frame that a text tells."""
    reading = Reading(text)
    pins, rods = _read_frame_parts(reading)
    reading.take_end()
    return Frame(pins, rods)


def write_stand(stand):
    """The text of a stand."""
    check_stand(stand)
    slides = stand.slides
    text = _text_of_frame(stand.frame)
    if len(slides) == 0:
        return text
    return f"{text}; " + " ".join([pin + "*" * slides[pin] for pin in slides])


def read_stand(text):
    """The stand that a text tells."""
    reading = Reading(text)
    pins, rods = _read_frame_parts(reading)
    slides = _read_slides(reading)
    reading.take_end()
    frame = Frame(pins, rods)
    many = dict(slides)
    if len(many) < len(slides):
        raise InvalidStand("the slides of a pin are told twice")
    return Stand(frame, many)


def is_data(value):
    """Whether the value is data."""
    return _is_data_within(value, MAX_DEEP)


def write_data(value):
    """The text of data."""
    if not is_data(value):
        raise InvalidOperation("this is no data")
    text = _text_of(value)
    if len(text) > MAX_TEXT:
        raise TooMany(MAX_TEXT)
    return text


def read_data(text):
    """The data with a text."""
    if not isinstance(text, str) or len(text) > MAX_TEXT:
        raise ParseError(None)
    reading = Reading(text)
    value = _read_value(reading, MAX_DEEP)
    reading.take_end()
    if reading.amiss is not None:
        raise ParseError(reading.amiss)
    return value


def _text_of_frame(frame):
    text = " ".join(frame.pins)
    if len(frame) == 0:
        return text
    return f"{text}: " + " ".join([f"{one}-{other}" for one, other in frame.rods])


def _read_frame_parts(reading):
    """The pins and rods that a text begins with."""
    pins = [reading.take_name()]
    while reading.sign() == " ":
        reading.step()
        pins.append(reading.take_name())
    rods = []
    if reading.sign() == ":":
        reading.step()
        rods.append(_read_rod(reading))
        while reading.sign() == " ":
            rods.append(_read_rod(reading))
    return tuple(pins), tuple(rods)


def _read_rod(reading):
    """A blank and a rod, as a pair."""
    reading.take(" ")
    one = reading.take_name()
    reading.take("-")
    return pair_of(one, reading.take_name())


def _read_slides(reading):
    """The pins with their numbers of slides that a text ends with, perhaps none."""
    slides = []
    if reading.sign() == ";":
        reading.step()
        slides.append(_read_slides_of_pin(reading))
        while reading.sign() == " ":
            slides.append(_read_slides_of_pin(reading))
    return slides


def _read_slides_of_pin(reading):
    """A blank, a pin, and the signs of its slides."""
    reading.take(" ")
    pin = reading.take_name()
    reading.take("*")
    if reading.sign() != "*":
        return (pin, 1)
    reading.step()
    return (pin, 2)


def _is_data_within(value, deep):
    """Whether the value is data with at most so many brackets open at a time."""
    if value is None or isinstance(value, bool):
        return True
    if isinstance(value, (int, str)):
        return _is_plain(value)
    if deep == 0:
        return False
    if isinstance(value, tuple):
        return all([_is_data_within(each, deep - 1) for each in value])
    if not isinstance(value, dict) or not _are_keys(list(value), deep - 1):
        return False
    return all([_is_data_within(each, deep - 1) for each in value.values()])


def _is_plain(value):
    """Whether the value is an integer, or a string that can be written."""
    if not isinstance(value, str):
        return is_integer(value)
    return len(value) <= MAX_STRING and all([_can_be_written(sign) for sign in value])


def _can_be_written(sign):
    """Whether a character can stand in a string of data; there is none at the end of a text."""
    return " " <= sign <= "~" and sign not in ("'", '"', "\\")


def _are_keys(keys, deep):
    """Whether the values can be the keys of one dict."""
    if all([isinstance(key, str) for key in keys]):
        return all([_is_plain(key) for key in keys])
    if deep == 0 or not all([_is_tuple_key(key) for key in keys]):
        return False
    # In this order, with integers ahead of strings, keys that do not fit stand side by side.
    marked = sorted([[(isinstance(part, str), part) for part in key] for key in keys])
    rows = [[part for _, part in row] for row in marked]
    return all([_do_fit(rows[at], rows[at + 1]) for at in range(len(rows) - 1)])


def _is_tuple_key(value):
    """Whether the value is a tuple of one or more strings and integers."""
    if not isinstance(value, tuple) or len(value) == 0:
        return False
    return all([_is_plain(part) for part in value])


def _do_fit(one, other):
    """Whether two keys differ first at two strings or two integers, or one begins with the other."""
    for part, against in zip(one, other):
        if part != against:
            return isinstance(part, str) == isinstance(against, str)
    return True


def _text_of(value):
    """The text of a value that is data."""
    if isinstance(value, tuple):
        inner = ", ".join([_text_of(each) for each in value])
        return f"({inner},)" if len(value) == 1 else f"({inner})"
    if isinstance(value, dict):
        inner = ", ".join([f"{_text_of(key)}: {_text_of(value[key])}" for key in sorted(value)])
        return "{" + inner + "}"
    return repr(value)


def _read_value(reading, deep):
    """Data with at most so many brackets open at a time."""
    sign = reading.sign()
    if sign in WORDS:
        word, value = WORDS[sign]
        reading.take(word)
        return value
    if sign == "(" and deep > 0:
        return _read_tuple(reading, deep - 1)
    if sign == "{" and deep > 0:
        return _read_dict(reading, deep - 1)
    return _read_plain(reading)


def _read_plain(reading):
    """A string or an integer."""
    if reading.sign() == "'":
        return _read_string(reading)
    return _read_integer(reading)


def _read_string(reading):
    reading.take("'")
    start = reading.here
    while reading.here < start + MAX_STRING and _can_be_written(reading.sign()):
        reading.step()
    found = reading.since(start)
    reading.take("'")
    return found


def _read_integer(reading):
    start = reading.here
    if reading.sign() == "0":
        reading.step()
        return 0
    if reading.sign() == "-":
        reading.step()
    if not "1" <= reading.sign() <= "9":
        raise ParseError(reading.here)
    first = reading.here
    while reading.here < first + MAX_DIGITS and "0" <= reading.sign() <= "9":
        reading.step()
    return int(reading.since(start))


def _read_tuple(reading, deep):
    """A tuple in which at most so many further brackets are open at a time."""
    reading.take("(")
    if reading.sign() == ")":
        reading.step()
        return ()
    return _read_members(reading, deep, False)


def _read_members(reading, deep, in_key):
    """The members of a tuple that has some, up to its end."""
    members = [_read_member(reading, deep, in_key)]
    reading.take(",")
    if reading.sign() != ")":
        reading.take(" ")
        members.append(_read_member(reading, deep, in_key))
        while reading.sign() == ",":
            reading.take(", ")
            members.append(_read_member(reading, deep, in_key))
    reading.take(")")
    return tuple(members)


def _read_member(reading, deep, in_key):
    if in_key:
        return _read_plain(reading)
    return _read_value(reading, deep)


def _read_dict(reading, deep):
    """A dict in which at most so many further brackets are open at a time."""
    reading.take("{")
    found = {}
    if reading.sign() == "}":
        reading.step()
        return found
    ahead = _read_entry(reading, deep, found, None)
    while reading.sign() == ",":
        reading.take(", ")
        ahead = _read_entry(reading, deep, found, ahead)
    reading.take("}")
    return found


def _read_entry(reading, deep, found, ahead):
    """Puts a key and its value into a dict, and returns the key; notes whether it stands amiss."""
    start = reading.here
    key = _read_key(reading, deep)
    if ahead is not None and not _stands_behind(key, ahead):
        reading.note_amiss(start)
    reading.take(": ")
    found[key] = _read_value(reading, deep)
    return key


def _read_key(reading, deep):
    """A key: a string, or a tuple of one or more strings and integers."""
    if reading.sign() == "(" and deep > 0:
        reading.step()
        return _read_members(reading, 0, True)
    return _read_string(reading)


def _stands_behind(key, ahead):
    """Whether a key can stand behind another one in a dict."""
    if isinstance(key, str) != isinstance(ahead, str):
        return False
    return _do_fit(ahead, key) and ahead < key
