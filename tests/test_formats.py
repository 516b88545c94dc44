"""Texts of frames, stands and data: promises 16.1 to 16.4."""

import random

from lengthstell.errors import InvalidFrame, InvalidOperation, InvalidStand, ParseError, TooMany
from lengthstell.frame.frames import Frame
from lengthstell.ground.stands import Stand
from lengthstell.text import formats
from lengthstell.text.formats import is_data, read_data, read_frame, read_stand, write_data, write_frame, write_stand
from tests.examples import EIGHT, FOUR, KITE, LONG, LONGEST, NAMED, SINGLE, TOO_LONG, all_frames, nested_tuples, pairs, random_frame
from tests.refusals import WRONG, Refusals, is_frame, is_stand, told
from tests.slow_texts import FRAME_TEXT, STAND_TEXT, do_fit, wrong_data_index, wrong_index
from tests.stands import ARM, BARE, DOUBLE, LADDER, LONE, TRIPOD, random_stand

SIGNS = "(){},: '-0129aNoneTrueFalse\n\"\\~"
LETTERS = "ab zq:-;*1A"


def plain_text(frame):
    """The text of a frame, by 16.1."""
    text = " ".join(frame.pins)
    return text + ":" * bool(frame.rods) + "".join(f" {one}-{other}" for one, other in frame.rods)


def plain_stand_text(stand):
    return plain_text(stand.frame) + ";" * bool(stand.slides) + "".join(
        f" {pin}" + "*" * many for pin, many in sorted(stand.slides.items())
    )


def shuffled_text(rng, stand):
    """The text of a stand with its pins, rods and slides in another order."""
    frame = stand.frame
    rods = ["-".join(rng.sample(rod, 2)) for rod in rng.sample(frame.rods, len(frame.rods))]
    text = " ".join(rng.sample(frame.pins, len(frame.pins)))
    text += ":" * bool(rods) + "".join(" " + rod for rod in rods)
    slides = [pin + "*" * many for pin, many in stand.slides.items()]
    return text + ";" * bool(slides) + "".join(" " + each for each in rng.sample(slides, len(slides)))


def spoilt(rng, text, signs):
    """A text that is cut off, or has another sign, one sign more or one less."""
    at = rng.randrange(len(text) + 1)
    sign = rng.choice(signs)
    return rng.choice((text[:at], text[:at] + sign + text[at:], text[:at] + sign + text[at + 1:], text[:at] + text[at + 1:]))


def random_data(rng, deep):
    if deep == 0 or rng.random() < 0.4:
        return rng.choice((None, True, False, 0, -1, 12, 10 ** rng.randrange(6), -305, "", "a", "bc d", "~" * 40, LONG))
    if rng.random() < 0.6:
        return tuple(random_data(rng, deep - 1) for _ in range(rng.choice((0, 1, 1, 2, 3))))
    keys = random_keys(rng)
    return {key: random_data(rng, deep - 1) for key in sorted(set(keys))}


def random_keys(rng):
    """Some keys that can stand in one dict, in any order and perhaps with duplicates."""
    if rng.random() < 0.5:
        return [rng.choice(("", "a", "ab", "b", "~")) for _ in range(rng.randrange(4))]
    return [
        tuple(rng.choice(("a", "b", "")) if at % 2 == 0 else rng.choice((0, 1, -3, 22)) for at in range(rng.randrange(1, 5)))
        for _ in range(rng.randrange(5))
    ]


class DataText:
    """The text of data whose dicts are rows of pairs, and where the first key stands amiss."""

    def __init__(self, value):
        self.text = ""
        self.amiss = []
        self.put(value)

    def put(self, value):
        if isinstance(value, list):
            self.text += "{"
            for at, (key, inner) in enumerate(value):
                self.text += ", " if at else ""
                if at and not do_fit(value[at - 1][0], key):
                    self.amiss.append(len(self.text))
                self.text += repr(key) + ": "
                self.put(inner)
            self.text += "}"
        elif isinstance(value, tuple):
            self.text += "("
            for at, inner in enumerate(value):
                self.text += ", " if at else ""
                self.put(inner)
            self.text += ",)" if len(value) == 1 else ")"
        else:
            self.text += repr(value)


class FormatsTest(Refusals):

    def spot_of(self, call, text):
        """The index that a call refuses a text with, or None if it takes it."""
        try:
            call(text)
        except ParseError as error:
            self.assertIs(error.__class__, ParseError)
            return error.spot
        except (InvalidFrame, InvalidStand):
            pass
        return None

    def test_examples(self):
        found = [write_frame(KITE), write_frame(Frame(("b", "a"))), write_stand(Stand(KITE, {"d": 1, "a": 2})), read_frame("c b a: c-a").rods]
        self.assertEqual(found, ["a b c d: a-b a-c a-d b-c b-d", "a b", "a b c d: a-b a-c a-d b-c b-d; a** d*", (("a", "c"),)])
        found = [write_data({"b": (0, -12), "a": (1,)}), read_data("{('a', 'b'): None, ('a', 'c'): ()}"), is_data({1: 2}), is_data((("a", 1), "b"))]
        self.assertEqual(found, ["{'a': (1,), 'b': (0, -12)}", {("a", "b"): None, ("a", "c"): ()}, False, True])
        self.refused(ParseError, read_frame, "a b: ab", kept=7)
        self.refused(InvalidFrame, read_frame, "a b: a-c")
        self.refused(ParseError, read_data, "(1, 02)", kept=5)
        self.refused(ParseError, read_data, "{'b': 1, 'a': 2}", kept=9)
        self.assertEqual((formats.MAX_TEXT, formats.MAX_STRING, formats.MAX_DEEP), (100000, 40, 8))
        self.assertEqual(write_frame(Frame(("a", "b", "c"), pairs("ab bc"))), "a b c: a-b b-c")

    def test_frames_and_stands_there_and_back(self):
        rng = random.Random(1601)
        frames = list(all_frames("abc")) + list(NAMED) + [random_frame(rng) for _ in range(60)]
        for frame in frames + [frame.renamed(dict(zip(frame.pins, rng.sample(["zz", "abcd", "q", "m", "xyz", "ab", "b", "bb"], len(frame.pins))))) for frame in frames]:
            text = write_frame(frame)
            self.assertEqual(text, plain_text(frame))
            self.assertEqual(read_frame(text), frame)
            self.assertEqual(read_stand(text), Stand(frame, {}))
        for stand in [random_stand(rng) for _ in range(60)] + [ARM, BARE, DOUBLE, LADDER, LONE, TRIPOD, Stand.held_at(EIGHT, EIGHT.pins)]:
            text = write_stand(stand)
            self.assertEqual(text, plain_stand_text(stand))
            self.assertEqual(read_stand(text), stand)
            other = shuffled_text(rng, stand)
            self.assertEqual(read_stand(other), stand)
            self.assertEqual(write_stand(read_stand(other)), text)
            if stand.slides:
                self.refused(ParseError, read_frame, text, kept=text.index(";"))
            self.assertEqual(read_frame(shuffled_text(rng, Stand(stand.frame, {}))), stand.frame)

    def test_spoilt_texts(self):
        rng = random.Random(1602)
        whole = ["a", "b a", "abcd aa: aa-abcd", "a b c: a-b b-c", "a; a*", "a b: a-b; a** b*", "abcd b; b* abcd**", "aa bbbb c: c-aa bbbb-c; c**"]
        for text in whole:
            for at in range(len(text) + 1):
                # Cut off at each place, and spoilt at each place by each of some signs.
                for other in [text[:at]] + [text[:at] + sign + text[at + more:] for sign in LETTERS for more in (0, 1)]:
                    self.assertEqual(self.spot_of(read_frame, other), wrong_index(FRAME_TEXT, other), other)
                    self.assertEqual(self.spot_of(read_stand, other), wrong_index(STAND_TEXT, other), other)
        for _ in range(3000):
            text = spoilt(rng, spoilt(rng, rng.choice(whole), LETTERS), LETTERS)
            self.assertEqual(self.spot_of(read_frame, text), wrong_index(FRAME_TEXT, text), text)
            self.assertEqual(self.spot_of(read_stand, text), wrong_index(STAND_TEXT, text), text)

    def test_where_texts_of_frames_go_wrong(self):
        cases = (
            ("", 0), (" ", 0), (" a", 0), ("a ", 2), ("a  b", 2), ("A", 0), ("1", 0), ("abcd", None), ("abcde", 4), ("a bcdef", 6), ("a,b", 1),
            ("a:", 2), ("a: ", 3), ("a b:a-b", 4), ("a b: a", 6), ("a b: a-", 7), ("a b: a-b ", 9), ("a b: a-b  a-b", 9), ("a b: a -b", 6),
            ("a b: a-bcdef", 11), ("a b: abcde-b", 9), ("a b : a-b", 4), ("a b: a-b: a-b", 8), ("a\tb", 1), ("a\n", 1), ("a b: a-b\n", 8), ("a;", 1),
            ("a b: a-b a", 10), ("a-b", 1), ("a b: a--b", 7), ("a*", 1),
        )
        for text, index in cases:
            if index is None:
                self.assertEqual(write_frame(read_frame(text)), text)
            else:
                self.refused(ParseError, read_frame, text, kept=index)
        cases = (
            ("a;", 2), ("a; ", 3), ("a;a*", 2), ("a; a", 4), ("a; a* ", 6), ("a; a***", 6), ("a; a**b*", 6), ("a; *", 3), ("a; a*;", 5), ("a; abcde*", 7),
            ("a b: a-b;", 9), ("a b: ; a*", 5), ("a; a *", 4), ("a; a*: a-b", 5),
        )
        for text, index in cases:
            self.refused(ParseError, read_stand, text, kept=index)

    def test_frames_and_stands_that_are_none(self):
        for text in (
            "a a", "a b a", "a b: a-b a-b", "a b: a-b b-a", "a b: a-a", "a: a-b", "a b: c-d", "a b c d e f g h i", "a a a a a a a a a", "a b: a-b a-c",
        ):
            self.refused(InvalidFrame, read_frame, text)
            self.refused(InvalidFrame, read_stand, text)
            self.refused(InvalidFrame, read_stand, text + "; z*")
        for text in ("a; b*", "a b: a-b; a* a*", "a b; a* b** a**", "a b; a* c*", "a b; abcd**"):
            self.refused(InvalidStand, read_stand, text)
        # What goes wrong in the text is told ahead of this.
        self.refused(ParseError, read_frame, "a a: ", kept=5)
        self.refused(ParseError, read_stand, "a a; z", kept=6)
        many = " ".join(["a"] * 2000)
        self.refused(InvalidFrame, read_frame, many)
        self.refused(ParseError, read_frame, many + ".", kept=len(many))

    def test_wrong_arguments(self):
        for call in (read_frame, read_stand, read_data):
            for wrong in WRONG:
                if not isinstance(wrong, str):
                    self.assertIsNone(self.refused(ParseError, call, wrong).spot)
        for wrong, index in (("", 0), ("A", 0), ("a1", 1), ("a\tb\n", 1), ("~" * 3000, 0), ("a" * 3000, 4), ("abcde", 4)):
            self.refused(ParseError, read_frame, wrong, kept=index)
            self.refused(ParseError, read_stand, wrong, kept=index)
            self.refused(ParseError, read_data, wrong, kept=0)
        self.check_arguments(write_frame, [(KITE, InvalidFrame, is_frame)])
        self.check_arguments(write_stand, [(ARM, InvalidStand, is_stand)])
        self.assertEqual(write_frame(frame=SINGLE), "a")
        self.assertEqual(write_stand(stand=LONE), "a; a**")
        self.assertEqual(read_frame(text="a"), SINGLE)
        self.assertEqual(read_stand(text="a; a**"), LONE)
        self.assertEqual((read_data(text="0"), write_data(value=0), is_data(value=0)), (0, "0", True))

    def test_data(self):
        right = [
            None, True, False, 0, -7, LONGEST, -LONGEST, "", "~ !#", "a" * 40, (), {}, (1,), (True,), {"": {}}, {("a", 1): 0, ("a", 2): 0, ("b",): 0},
            {("a",): 1, ("a", 1): 2, ("a", 1, "x"): 3}, {(1,): 1, (2, "a"): 2}, {("a", "b"): 1, ("a", "c", 3): 1}, {("a", 1): 1, ("b", "c"): 1},
            nested_tuples(8), nested_tuples(7, {}), nested_tuples(7, {"a": 1}), nested_tuples(6, {("a",): 1}), {"a": nested_tuples(7)}, {("a",): 1}, ({("a", LONGEST): (None,)},), {("",): 0}, {(-1, "a"): (), (0,): {}},
        ]
        for value in right:
            self.assertIs(is_data(value), True)
            self.assertEqual(told(read_data(write_data(value))), told(value))
        wrong = [
            TOO_LONG, -TOO_LONG, "a" * 41, "'", '"', "\\", "a\n", "\t", [], [1], (1, [2]), {1: 2}, {True: 1}, {None: 1}, {"a": 1, ("a",): 2}, {(): 1},
            {("a", 1): 1, ("a", "b"): 2}, {(1,): 1, ("a",): 2}, {("a", True): 1}, {("a", None): 1}, {("a", ("b",)): 1}, {("a", TOO_LONG): 1}, {"'": 1},
            {"a" * 41: 1}, {("a" * 41,): 1}, {"a": [1]}, {"a": TOO_LONG}, nested_tuples(9), {"a": nested_tuples(8)}, nested_tuples(7, {("a",): 1}), KITE, LONE,
            (KITE,), {"a": KITE}, {("a", 1): 1, ("b",): 2, ("a", "1"): 3}, nested_tuples(8, ()), nested_tuples(8, {}), {("\n",): 1},
        ]
        for value in wrong:
            self.assertIs(is_data(value), False)
            self.refused(InvalidOperation, write_data, value)
        for value in WRONG:
            if is_data(value):
                self.assertEqual(told(read_data(write_data(value))), told(value))
            else:
                self.refused(InvalidOperation, write_data, value)
        self.assertEqual(write_data({"b": 1, "a": {("b",): (), ("a", -2): 0, ("a", 10): None}}), "{'a': {('a', -2): 0, ('a', 10): None, ('b',): ()}, 'b': 1}")

    def test_keys_that_do_not_fit(self):
        rng = random.Random(1603)
        seen = set()
        for _ in range(1500):
            keys = [
                tuple(rng.choice(("a", "b", 0, 1)) for _ in range(rng.randrange(1, 4))) for _ in range(rng.randrange(1, 6))
            ]
            keys = list(dict.fromkeys(keys))
            fit = all(do_fit(one, other) or do_fit(other, one) for at, one in enumerate(keys) for other in keys[:at])
            self.assertIs(is_data({key: 0 for key in keys}), fit)
            seen.add((len(keys), fit))
        self.assertGreater(len(seen), 7)

    def test_data_there_and_back(self):
        rng = random.Random(1604)
        for _ in range(800):
            value = random_data(rng, rng.randrange(6))
            text = write_data(value)
            self.assertEqual(text, repr(value))
            self.assertIsNone(wrong_data_index(text))
            found = read_data(text)
            self.assertEqual(told(found), told(value))
            self.assertEqual(write_data(found), text)

    def test_spoilt_texts_of_data(self):
        rng = random.Random(1605)
        whole = ["0", "-12", "None", "True", "False", "'ab c'", "()", "(1,)", "(-1, 'a')", "{}", "{'a': ()}", "{('a', 1): {}, ('b',): (2, 3)}", "((), {(0,): None})"]
        for text in whole:
            for at in range(len(text) + 1):
                for other in [text[:at]] + [text[:at] + sign + text[at + more:] for sign in SIGNS for more in (0, 1)]:
                    self.check_text(other)
        for _ in range(600):
            text = write_data(random_data(rng, rng.randrange(1, 5)))
            if len(text) < 200:
                for _ in range(8):
                    self.check_text(spoilt(rng, spoilt(rng, text, SIGNS), SIGNS))

    def check_text(self, text):
        index = wrong_data_index(text)
        spot = self.spot_of(read_data, text)
        if index is None and spot is None:
            self.assertEqual(write_data(read_data(text)), text)
        elif index is None:
            # All goes on, but a key stands amiss.
            self.assertTrue("{" in text and text[spot] in "'(", text)
        else:
            self.assertEqual(spot, index, text)

    def test_where_texts_of_data_go_wrong(self):
        digits = "9" * 2000
        cases = (
            ("", 0), (" 1", 0), ("1 ", 1), ("01", 1), ("00", 1), ("-", 1), ("-0", 1), ("--1", 1), ("-01", 1), ("+1", 0), ("1.0", 1), ("1_0", 1), ("(1)", 2),
            ("(1,2)", 3), ("(1, )", 4), ("(1, 2,)", 6), ("(,)", 1), ("( )", 1), ("(1 , 2)", 2), ("[1]", 0), ("{1: 2}", 1), ("{(): 2}", 2), ("{(1): 2}", 3),
            ("{'a':2}", 5), ("{'a' : 2}", 4), ("{'a': 2,}", 8), ("{'a': 2, }", 9), ("{'a'}", 4), ("{ }", 1), ("'a", 2), ("\"a\"", 0), ("'a\"", 2), ("'\\'", 1),
            ("'\n'", 1), ("Nona", 3), ("none", 0), ("Tru", 3), ("Falsey", 5), ("{None: 1}", 1), ("{(None,): 1}", 2), ("{((1,),): 1}", 2), ("{(True,): 1}", 2),
            ("(1, 2))", 6), ("()()", 2), ("1,", 1), ("(", 1), ("(1", 2), ("(1,", 3), ("(1, 2", 5), ("{", 1), ("{'a'", 4), ("{'a':", 5), ("{'a': ", 6), ("{'a': 1", 7),
            ("(" * 9, 8), ("(" * 8 + "{", 8), ("{'a': " * 8 + "(", 48), ("{'a': " * 8 + "1" + "}" * 8, None), ("{'a': " * 7 + "{('a',): 1}" + "}" * 7, 43),
            ("{'a': " * 6 + "{('a',): 1}" + "}" * 6, None), ("{'a': " * 7 + "{}" + "}" * 7, None), ("(" * 8 + ")", None), (digits, None), ("-" + digits, None), (digits + "9", 2000), ("-" + digits + "9", 2001), ("(1" + "0" * 2000 + ",)", 2001),
            ("'" + "a" * 40 + "'", None), ("'" + "a" * 41 + "'", 41), ("{'" + "a" * 41 + "': 1}", 42),
        )
        for text, index in cases:
            if text == "(" * 8 + ")":
                text = "(" * 7 + "()" + ",)" * 7
            self.assertEqual(wrong_data_index(text), index, text)
            if index is None:
                self.assertEqual(write_data(read_data(text)), text)
            else:
                self.refused(ParseError, read_data, text, kept=index)

    def test_keys_that_stand_amiss(self):
        cases = (
            ("{'b': 1, 'a': 2}", 9), ("{'a': 1, 'a': 2}", 9), ("{'a': 1, ('a',): 2}", 9), ("{('a',): 1, 'b': 2}", 12), ("{('a', 1): 1, ('a', 'b'): 2}", 14),
            ("{('a', 'b'): 1, ('a', 1): 2}", 16), ("{(2,): 1, (10,): 2}", None), ("{(10,): 1, (2,): 2}", 11), ("{('a', 1): 1, ('a',): 2}", 14),
            ("{('a',): 1, ('a', 1): 2, ('b', 'c'): 3}", None), ("{'a': {'c': 1, 'b': 2}, 'b': 0}", 15), ("{'b': {'d': 1, 'c': 2}, 'a': 0}", 15),
            ("{'b': {'c': 1, 'd': 2}, 'a': {'z': 0, 'y': 0}}", 24), ("({'a': 1}, {'b': 2, 'a': 3})", 20), ("{'a': 1, 'c': 2, 'b': 3, 'a': 4}", 17),
            ("{(1,): 1, ('a',): 2}", 10),
        )
        for text, index in cases:
            if index is None:
                self.assertEqual(write_data(read_data(text)), text)
            else:
                self.refused(ParseError, read_data, text, kept=index)
                # What does not go on is told ahead of this.
                self.refused(ParseError, read_data, text + ")", kept=len(text))
                self.refused(ParseError, read_data, text[:-1], kept=len(text) - 1)
        rng = random.Random(1606)
        seen = set()
        for _ in range(1500):
            made = DataText(self.random_rows(rng, 3))
            index = made.amiss[0] if made.amiss else None
            self.assertEqual(self.spot_of(read_data, made.text), index, made.text)
            seen.add(min(len(made.amiss), 3))
        self.assertEqual(seen, {0, 1, 2, 3})

    def random_rows(self, rng, deep):
        if deep == 0 or rng.random() < 0.3:
            return rng.choice((1, "a", None))
        if rng.random() < 0.4:
            return tuple(self.random_rows(rng, deep - 1) for _ in range(rng.randrange(3)))
        keys = random_keys(rng)
        if rng.random() < 0.6:
            keys = sorted(keys)
        if rng.random() < 0.2:
            keys.insert(rng.randrange(len(keys) + 1), rng.choice(("k", ("a", "z"), (1,), ("a", 1, 2))))
        return [(key, self.random_rows(rng, deep - 1)) for key in keys]

    def test_longest_texts(self):
        value = (11,) * 24998 + (1111,)
        for more, fits in ((0, True), (1, True), (2, False)):
            longer = value[:-1] + (10 ** (4 + more),)
            text = repr(longer)
            self.assertEqual(len(text), 99999 + more)
            self.assertIs(is_data(longer), True)
            if fits:
                self.assertEqual(write_data(longer), text)
                self.assertEqual(read_data(text), longer)
            else:
                self.refused(TooMany, write_data, longer, kept=100000)
                self.assertIsNone(self.refused(ParseError, read_data, text).spot)
        self.refused(ParseError, read_data, "(1, " * 25000, kept=32)
        self.refused(ParseError, read_data, "(" + "11, " * 24999 + "111", kept=100000)
        self.assertIsNone(self.refused(ParseError, read_data, "x" * 100001).spot)
        self.assertIsNone(self.refused(ParseError, read_data, "x" * 200000).spot)
        self.refused(ParseError, read_data, "x" * 100000, kept=0)
        many = {f"k{at:05d}": at for at in range(6000)}
        self.assertEqual(read_data(write_data(many)), many)
        self.assertEqual(write_data(dict(reversed(many.items()))), repr(many))
        rows = {("a", at, "b"): None for at in range(3000)}
        self.assertEqual(read_data(write_data(dict(reversed(rows.items())))), rows)

    def test_arguments_stay(self):
        value = {"b": ({"d": 1, "c": 2},), "a": 0}
        before = told(value)
        self.assertEqual(write_data(value), "{'a': 0, 'b': ({'c': 2, 'd': 1},)}")
        self.assertIs(is_data(value), True)
        self.assertEqual(told(value), before)
        text = write_data(value)
        found = read_data(text)
        self.assertEqual([list(found), list(found["b"][0])], [["a", "b"], ["c", "d"]])
        found.clear()
        self.assertEqual(told(read_data(text)), told({"a": 0, "b": ({"c": 2, "d": 1},)}))
        self.assertEqual(write_frame(FOUR), write_frame(FOUR))
