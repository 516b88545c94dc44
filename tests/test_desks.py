"""Desks and lots: promises 15.3 to 15.7, and 0.2 for the classes that change."""

import itertools
import random

from lengthstell.book import desks as desk_module
from lengthstell.book.desks import Desk, Lot
from lengthstell.book.promises import does_hold
from lengthstell.errors import (
    InvalidFrame,
    InvalidNumber,
    InvalidOperation,
    InvalidPromise,
    NothingToUndo,
    Refused,
    TooMany,
    UnknownName,
)
from lengthstell.frame.frames import Frame
from tests.examples import EIGHT, FOUR, KITE, LOOSE_EIGHT, SINGLE, TOO_LONG, WHEEL, pairs, random_frame
from tests.refusals import WRONG, Refusals, is_frame, told
from tests.test_promises import all_promises, holds, is_own_paper

AB = ("a", "b")
CD = ("c", "d")
NO_DEEDS = (
    ("rod",), ("rod", "ab"), ("rod", ("b", "a")), ("rod", ("a", "a")), ("rod", ["a", "b"]), ("rod", "a", "b"), ("rod", AB, AB),
    ("rods", AB), ["rod", AB], ("no rod", ("a", "b", "c")), ("no rod", None), ("pin", "e"), ("pin", "e", "a"), ("pin", "e", ["a"]),
    ("pin", "e", ("b", "a")), ("pin", "e", ("a", "a")), ("pin", "abcde", ()), ("pin", "E", ()), ("pin", ("e",), ()), ("pin", "e", (), ()),
    ("no pin", "e", ()), ("no pin", ("a",)), ("no pin", True), ("no pin", "abcde"), ("no pin",), "rod", None, (), 1, ("no", "pin", "a"),
    ("rod", ("a", "abcde")), ("rod", (1, 2)), {"rod": AB}, (("rod", AB),), ("pin", "e", (1,)), ("drop", AB),
)


def word_against(pins, rods, deed):
    """The word of why a deed fails, by 15.4, or None."""
    word, first, *rest = deed
    needed = {"rod": first, "no rod": first, "no pin": (first,), "pin": rest[0] if rest else ()}[word]
    if not set(needed) <= set(pins):
        return "unknown"
    if word == "rod" and first in rods or word == "pin" and first in pins:
        return "there"
    if word == "no rod" and first not in rods:
        return "missing"
    if word == "pin" and len(pins) == 8:
        return "many"
    if word == "no pin" and len(pins) == 1:
        return "last"
    return None


def changed(pins, rods, deed):
    """The pins and rods behind a deed, by 15.3."""
    word, first, *rest = deed
    if word == "rod":
        return pins, rods | {first}
    if word == "no rod":
        return pins, rods - {first}
    if word == "pin":
        return pins | {first}, rods | {tuple(sorted((first, pin))) for pin in rest[0]}
    return pins - {first}, {rod for rod in rods if first not in rod}


def behind(frame, deeds):
    """The frame behind deeds, or the index and the word of the first one that fails."""
    pins, rods = set(frame.pins), set(frame.rods)
    for at, deed in enumerate(deeds):
        word = word_against(pins, rods, deed)
        if word is not None:
            return at, word
        pins, rods = changed(pins, rods, deed)
    return Frame(tuple(pins), tuple(rods))


def random_deed(rng, frame):
    names = "abcdefghi"[:len(frame.pins) + 1]
    word = rng.choice(("rod", "rod", "rod", "no rod", "no rod", "pin", "no pin"))
    if word == "pin":
        return ("pin", rng.choice(names), tuple(sorted(rng.sample(frame.pins, rng.randrange(len(frame.pins) + 1)))))
    if word == "no pin":
        return ("no pin", rng.choice(names))
    if len(names) > 2 and word == "rod" and frame.missing and rng.random() < 0.7:
        return ("rod", rng.choice(frame.missing))
    if word == "no rod" and frame.rods and rng.random() < 0.8:
        return ("no rod", rng.choice(frame.rods))
    return (word, tuple(sorted(rng.sample(names, 2))))


class PlainDesk:
    """A desk that keeps each version by itself, for comparison."""

    def __init__(self, frame):
        self.versions = [(frame, ())]

    def broken(self, frame):
        return [promise for promise in self.versions[-1][1] if not holds(frame, promise)]

    def do(self, deeds):
        frame, promises = self.versions[-1]
        found = behind(frame, deeds)
        if isinstance(found, tuple):
            return ("deed", *found)
        if self.broken(found):
            return ("broken", self.broken(found)[0])
        if found != frame:
            self.versions.append((found, promises))
        return len(self.versions) - 1

    def promise(self, promise):
        frame, promises = self.versions[-1]
        if not holds(frame, promise):
            return ("broken", promise)
        if promise in promises:
            return False
        if len(promises) == 8:
            return 8
        self.versions.append((frame, promises + (promise,)))
        return True


class DesksTest(Refusals):

    def test_examples(self):
        desk, ab = Desk(FOUR), ("a", "b")
        found = [desk.promise(("told", 2)), desk.promise(("told", 2)), desk.would((("no rod", ab),)), desk.version, str(desk)]
        self.assertEqual(found, [True, False, (("told", 2),), 1, "desk of 4 pins, 6 rods, 1 promises"])
        deeds = (("pin", "e", ("a", "b", "c")), ("no rod", ab))
        found = [desk.do(deeds), len(desk.frame), desk.would((("no rod", ("a", "e")),)), desk.undo(), desk.frame == FOUR]
        self.assertEqual(found, [2, 8, (("told", 2),), 1, True])
        self.refused(Refused, desk.do, (("rod", ab),), kept=("deed", 0, "there"))
        self.assertEqual((desk_module.MAX_PROMISES, desk_module.MAX_DEEDS), (8, 20))

    def test_new_desks(self):
        desk = Desk(frame=KITE)
        self.assertEqual((desk.frame, desk.promises, desk.version, len(desk), list(desk)), (KITE, (), 0, 0, []))
        self.assertEqual(str(desk), "desk of 4 pins, 5 rods, 0 promises")
        self.check_arguments(Desk, [(KITE, InvalidFrame, is_frame)])

    def test_deeds(self):
        desk = Desk(KITE)
        self.assertEqual(desk.do((("rod", CD),)), 1)
        self.assertEqual(desk.frame, FOUR)
        self.assertEqual(desk.do((("pin", "e", ()), ("rod", ("a", "e")), ("no pin", "b"))), 2)
        self.assertEqual(desk.frame, Frame(("a", "c", "d", "e"), pairs("ac ad ae cd")))
        self.assertEqual(desk.do(deeds=(("no rod", CD), ("pin", "x", ("a", "c", "d", "e")))), 3)
        self.assertEqual(desk.frame, Frame(("a", "c", "d", "e", "x"), pairs("ac ad ae ax cx dx ex")))

    def test_longer_names(self):
        desk = Desk(Frame(("ab", "c", "wxyz"), (("ab", "c"),)))
        self.assertEqual(desk.do((("rod", ("c", "wxyz")), ("pin", "zz", ("ab", "wxyz")), ("no rod", ("ab", "c")), ("no pin", "ab"))), 1)
        self.assertEqual(desk.frame, Frame(("c", "wxyz", "zz"), (("c", "wxyz"), ("wxyz", "zz"))))
        self.refused(Refused, desk.do, (("no pin", "cc"),), kept=("deed", 0, "unknown"))
        self.refused(Refused, desk.do, (("pin", "d", ("cc",)),), kept=("deed", 0, "unknown"))

    def test_words_of_deeds_that_fail(self):
        cases = (
            (KITE, ("rod", ("a", "e")), "unknown"), (KITE, ("rod", ("e", "f")), "unknown"), (KITE, ("no rod", ("a", "z")), "unknown"),
            (KITE, ("pin", "e", ("a", "z")), "unknown"), (KITE, ("no pin", "z"), "unknown"), (KITE, ("rod", AB), "there"),
            (KITE, ("pin", "a", ()), "there"), (KITE, ("no rod", CD), "missing"), (EIGHT, ("pin", "i", ()), "many"), (SINGLE, ("no pin", "a"), "last"),
            # Which word comes first where several apply.
            (KITE, ("pin", "a", ("a", "z")), "unknown"), (KITE, ("pin", "e", ("e",)), "unknown"), (EIGHT, ("pin", "i", ("i",)), "unknown"),
            (EIGHT, ("pin", "a", ("b",)), "there"), (KITE, ("pin", "a", ("a",)), "there"), (SINGLE, ("no pin", "b"), "unknown"),
            (EIGHT, ("pin", "z", tuple("abcdefgh")), "many"), (EIGHT, ("pin", "z", tuple("abcdefghi")), "unknown"),
        )
        for frame, deed, word in cases:
            self.assertEqual(word_against(frame.pins, frame.rods, deed), word)
            for ahead in ((), (("no rod", ("a", "d")), ("rod", ("a", "d")))) if ("a", "d") in frame else ((),):
                desk = Desk(frame)
                for call in (desk.do, desk.would):
                    self.refused(Refused, call, (*ahead, deed, ("no pin", "zz")), kept=("deed", len(ahead), word))
                self.assertEqual((desk.frame, desk.version), (frame, 0))
                lot = desk.lot()
                for each in ahead:
                    lot.add(each)
                self.refused(Refused, lot.add, deed, kept=("deed", len(ahead), word))
                self.assertEqual((lot.frame, lot.is_open), (frame, True))
                lot.drop()

    def test_numbers_of_deeds(self):
        turns = [("no rod", AB), ("rod", AB)] * 10
        desk = Desk(FOUR)
        self.assertEqual(desk.do(tuple(turns)), 0)
        self.assertEqual(desk.do(tuple(turns[:19])), 1)
        self.assertEqual(desk.would(tuple(turns[1:20])), ())
        for wrong in ((), tuple(turns) + (("no pin", "z"),), tuple(turns) * 2, list(turns[:2]), None, "rod", ("rod", AB), 1, {}):
            self.refused(InvalidOperation, desk.do, wrong)
            self.refused(InvalidOperation, desk.would, wrong)
        self.assertEqual((desk.version, len(desk.frame)), (1, 5))

    def test_wrong_deeds(self):
        desk = Desk(FOUR)
        lot = Desk(FOUR).lot()
        for wrong in NO_DEEDS + WRONG:
            # What is no deed is told ahead of a deed that fails.
            for deeds in ((wrong,), (("rod", AB), wrong), (wrong, ("no rod", AB))):
                self.refused(InvalidOperation, desk.do, deeds)
                self.refused(InvalidOperation, desk.would, deeds)
            self.refused(InvalidOperation, lot.add, wrong)
        for wrong in WRONG:
            self.refused(InvalidOperation, desk.do, wrong)
            self.refused(InvalidOperation, desk.would, wrong)
        self.assertEqual((desk.version, lot.frame, lot.is_open), (0, FOUR, True))

    def test_broken_promises(self):
        desk = Desk(FOUR)
        for promise in (("firm", 1), ("told", 2), ("spare", CD, 2)):
            self.assertIs(desk.promise(promise), True)
        error = self.refused(Refused, desk.do, (("no rod", AB),))
        word, promise, paper = error.reason
        self.assertEqual((word, promise), ("broken", ("told", 2)))
        self.assertTrue(is_own_paper(KITE.renamed({"a": "c", "b": "d", "c": "a", "d": "b"}), promise, paper))
        self.assertEqual(desk.would((("no rod", AB),)), (("told", 2), ("spare", CD, 2)))
        self.assertEqual(desk.would((("no rod", CD),)), (("told", 2), ("spare", CD, 2)))
        deeds = (("no pin", "a"), ("no pin", "b"), ("no pin", "c"))
        self.assertEqual(desk.would(deeds), (("spare", CD, 2),))
        self.assertEqual(self.refused(Refused, desk.do, deeds).reason, ("broken", ("spare", CD, 2), ("away", CD)))
        # Within deeds that are done together promises can be broken for a while.
        self.assertEqual(desk.do((("no rod", AB), ("no pin", "a"), ("pin", "a", ("b", "c", "d")))), 3)
        self.assertEqual((desk.frame, desk.version), (FOUR, 3))
        self.assertEqual(desk.do((("pin", "e", ("a", "b", "c")), ("no rod", AB))), 4)

    def test_no_version_for_the_same_frame(self):
        desk = Desk(FOUR)
        desk.promise(("told", 2))
        self.assertEqual(desk.do((("no rod", AB), ("rod", AB))), 1)
        self.assertEqual(desk.do((("pin", "e", ("a",)), ("no pin", "e"))), 1)
        self.assertEqual((desk.version, desk.frame), (1, FOUR))

    def test_putting_promises(self):
        desk = Desk(FOUR)
        some = [("firm", 1), ("firm", 2), ("told", 1), ("told", 2), ("few", 6), ("few", 7), ("few", 8), ("few", 9)]
        for at, promise in enumerate(some):
            self.assertIs(desk.promise(promise), True)
            self.assertEqual((desk.version, desk.promises), (at + 1, tuple(some[:at + 1])))
        for promise in some:
            self.assertIs(desk.promise(promise=promise), False)
        self.refused(TooMany, desk.promise, ("few", 10), kept=8)
        error = self.refused(Refused, desk.promise, ("few", 5))
        self.assertEqual(error.reason, ("broken", ("few", 5), ("many", 6)))
        self.assertEqual(self.refused(Refused, desk.promise, ("spare", ("y", "z"), 1)).reason[2], ("away", ("y", "z")))
        for wrong in [("few", 29), ("firm", True), ["firm", 1], None] + list(WRONG):
            self.refused(InvalidPromise, desk.promise, wrong)
            self.refused(InvalidPromise, desk.drop, wrong)
        self.assertEqual((desk.version, desk.promises), (8, tuple(some)))
        self.assertEqual((len(desk), list(desk)), (8, some))
        self.assertEqual(str(desk), "desk of 4 pins, 6 rods, 8 promises")

    def test_dropping_promises(self):
        desk = Desk(FOUR)
        for promise in (("told", 2), ("few", 6), ("firm", 1)):
            desk.promise(promise)
        self.assertEqual(desk.drop(promise=("few", 6)), 4)
        self.assertEqual(desk.promises, (("told", 2), ("firm", 1)))
        self.refused(UnknownName, desk.drop, ("few", 6), kept=("few", 6))
        self.assertIs(desk.promise(("few", 6)), True)
        self.assertEqual((desk.promises, desk.version), ((("told", 2), ("firm", 1), ("few", 6)), 5))
        self.assertEqual(desk.undo(2), 3)
        self.assertEqual(desk.promises, (("told", 2), ("few", 6), ("firm", 1)))

    def test_membership(self):
        desk = Desk(FOUR)
        for promise in (("told", 2), ("firm", 1), ("spare", AB, 1), ("few", 6)):
            desk.promise(promise)
        for promise in desk.promises:
            self.assertIs(promise in desk, True)
        for value in (("told", 1), ("firm", True), ("spare", AB, True), ["told", 2], ("few", 7), ("few", 6, 6), ("spare", ("b", "a"), 1), *WRONG):
            self.assertIs(value in desk, False)

    def test_undo(self):
        desk = Desk(FOUR)
        desk.promise(("told", 2))
        desk.do((("pin", "e", ("a", "b", "c")),))
        desk.do((("no rod", AB),))
        desk.drop(("told", 2))
        self.assertEqual((desk.version, desk.undo()), (4, 3))
        self.assertEqual((desk.promises, len(desk.frame)), ((("told", 2),), 8))
        self.assertEqual(desk.undo(count=2), 1)
        self.assertEqual((desk.promises, desk.frame), ((("told", 2),), FOUR))
        # What is undone is gone.
        self.refused(InvalidNumber, desk.at, 2, kept=2)
        self.refused(NothingToUndo, desk.undo, 2, kept=2)
        self.refused(NothingToUndo, desk.undo, 10 ** 1999, kept=10 ** 1999)
        self.assertEqual((desk.undo(1), desk.frame, desk.promises), (0, FOUR, ()))
        self.refused(NothingToUndo, desk.undo, kept=1)
        for wrong in [0, -1, True, False, None, "1", (1,), TOO_LONG, 1 - 10 ** 1999] + [value for value in WRONG if value not in (1, 2, 3, 7)]:
            self.assertIs(self.refused(InvalidNumber, desk.undo, wrong).given, wrong)

    def test_versions(self):
        desk = Desk(FOUR)
        desk.promise(("told", 2))
        desk.do((("pin", "e", ("a", "b", "c")),))
        for version, (frame, some) in enumerate(((FOUR, ()), (FOUR, (("told", 2),)), (FOUR.with_pin("e", "a", "b", "c"), (("told", 2),)))):
            copy = desk.at(version=version)
            self.assertEqual((copy.frame, copy.promises, copy.version), (frame, some, 0))
            self.refused(NothingToUndo, copy.undo, kept=1)
        for wrong in [3, -1, True, False, None, "0", (0,), 10 ** 1999, TOO_LONG]:
            self.assertIs(self.refused(InvalidNumber, desk.at, wrong).given, wrong)
        for wrong in WRONG:
            if wrong not in (0, 1, 2) or isinstance(wrong, bool):
                self.assertIs(self.refused(InvalidNumber, desk.at, wrong).given, wrong)
        # A copy goes its own way, and so does the desk.
        copy = desk.at(1)
        copy.do((("pin", "f", ("b", "c", "d")),))
        copy.drop(("told", 2))
        self.assertEqual((desk.version, desk.frame.pins, desk.promises), (2, tuple("abcde"), (("told", 2),)))
        desk.undo(2)
        self.assertEqual((copy.version, copy.frame.pins, copy.promises), (2, tuple("abcdf"), ()))
        lot = desk.lot()
        self.assertEqual(desk.at(0).version, 0)
        self.assertEqual(desk.at(0).do((("no rod", AB),)), 1)
        lot.drop()

    def test_equal_desks(self):
        one, other = Desk(FOUR), Desk(KITE)
        self.assertFalse(one == other)
        other.do((("rod", CD),))
        self.assertTrue(one == other)
        one.promise(("told", 2))
        self.assertTrue(one != other)
        other.promise(("firm", 2))
        self.assertFalse(one == other)
        other.drop(("firm", 2))
        other.promise(("told", 2))
        self.assertTrue(one == other)
        self.assertFalse(one != other)
        one.promise(("firm", 2))
        other.drop(("told", 2))
        other.promise(("firm", 2))
        other.promise(("told", 2))
        self.assertFalse(one == other)
        for value in WRONG + (FOUR, one.promises):
            self.assertIs(one == value, False)

    def test_lots(self):
        desk = Desk(FOUR)
        desk.promise(("told", 2))
        lot = desk.lot()
        self.assertIsInstance(lot, Lot)
        self.assertEqual((lot.frame, lot.is_open), (FOUR, True))
        self.assertEqual([lot.add(("no rod", AB)), lot.add(deed=("pin", "e", ("a", "b", "c")))], [1, 2])
        self.assertEqual((str(lot.frame), desk.frame, desk.version), ("frame of 5 pins, 8 rods", FOUR, 1))
        self.assertEqual(lot.end(), 2)
        self.assertEqual((lot.is_open, desk.version, desk.frame), (False, 2, lot.frame))
        self.assertEqual(desk.undo(), 1)
        self.assertEqual((desk.frame, str(lot.frame)), (FOUR, "frame of 5 pins, 8 rods"))

    def test_lots_without_an_effect(self):
        desk = Desk(FOUR)
        desk.promise(("told", 2))
        self.assertEqual(desk.lot().end(), 1)
        lot = desk.lot()
        lot.add(("no rod", AB))
        self.assertIsNone(lot.drop())
        self.assertEqual((lot.is_open, desk.version, desk.frame), (False, 1, FOUR))
        lot = desk.lot()
        lot.add(("no rod", AB))
        lot.add(("rod", AB))
        self.assertEqual((lot.end(), desk.version), (1, 1))
        # If it is refused, the lot is closed, and nothing is done.
        lot = desk.lot()
        lot.add(("no rod", AB))
        error = self.refused(Refused, lot.end)
        self.assertEqual(error.reason[:2], ("broken", ("told", 2)))
        self.assertTrue(is_own_paper(FOUR.without_rod("a", "b"), ("told", 2), error.reason[2]))
        self.assertEqual((lot.is_open, desk.version, desk.frame), (False, 1, FOUR))
        self.assertEqual(desk.do((("pin", "e", ("a", "b", "c")),)), 2)

    def test_lots_of_many_deeds(self):
        desk = Desk(FOUR)
        lot = desk.lot()
        for at in range(61):
            self.assertEqual(lot.add(("no rod", AB) if at % 2 == 0 else ("rod", AB)), at + 1)
        self.refused(Refused, lot.add, ("no rod", AB), kept=("deed", 61, "missing"))
        self.assertEqual(lot.add(("rod", AB)), 62)
        self.refused(Refused, lot.add, ("rod", AB), kept=("deed", 62, "there"))
        lot.add(("no rod", AB))
        self.assertEqual((lot.end(), len(desk.frame)), (1, 5))

    def test_closed_lots(self):
        for close in ("end", "drop"):
            desk = Desk(FOUR)
            lot = desk.lot()
            getattr(lot, close)()
            for wrong in (("no rod", AB), None, ("rod", AB)):
                self.refused(InvalidOperation, lot.add, wrong)
            self.refused(InvalidOperation, lot.end)
            self.refused(InvalidOperation, lot.drop)
            with self.assertRaises(InvalidOperation):
                with lot:
                    raise KeyError
            self.assertEqual((lot.is_open, lot.frame, desk.version), (False, FOUR, 0))
            # The desk can have another lot, and the closed one does nothing to it.
            other = desk.lot()
            self.assertTrue(other.is_open)
            self.refused(InvalidOperation, lot.drop)
            self.assertTrue(other.is_open)

    def test_calls_with_an_open_lot(self):
        desk = Desk(FOUR)
        desk.promise(("told", 2))
        lot = desk.lot()
        lot.add(("pin", "e", ("a", "b", "c")))
        for call, some in (
            (desk.do, ((), None, (("rod", AB),), (("no rod", AB),))), (desk.promise, (None, ("few", 0), ("told", 2), ("firm", 1))),
            (desk.drop, (None, ("few", 0), ("told", 2))), (desk.undo, (0, None, 1, 9, True)),
        ):
            for value in some:
                self.refused(InvalidOperation, call, value)
        self.refused(InvalidOperation, desk.lot)
        self.refused(InvalidOperation, desk.undo)
        # All else of the desk can be asked.
        self.assertEqual((desk.frame, desk.promises, desk.version), (FOUR, (("told", 2),), 1))
        self.assertEqual((len(desk), list(desk), ("told", 2) in desk, str(desk)), (1, [("told", 2)], True, "desk of 4 pins, 6 rods, 1 promises"))
        self.assertEqual(desk.would((("no rod", AB),)), (("told", 2),))
        self.refused(InvalidOperation, desk.would, ())
        self.refused(InvalidNumber, desk.at, 2, kept=2)
        self.assertEqual((desk.at(1), desk == desk.at(1)), (desk, True))
        self.assertEqual((lot.end(), desk.version), (2, 2))
        self.assertEqual(desk.undo(2), 0)

    def test_with_statements(self):
        desk = Desk(FOUR)
        with desk.lot() as lot:
            self.assertIsInstance(lot, Lot)
            self.assertTrue(lot.is_open)
            lot.add(("no rod", AB))
        self.assertEqual((lot.is_open, desk.version, desk.frame), (False, 0, FOUR))
        with desk.lot() as lot:
            lot.add(("no rod", AB))
            self.assertEqual(lot.end(), 1)
        self.assertEqual((lot.is_open, desk.version, len(desk.frame)), (False, 1, 5))
        with desk.lot() as lot:
            lot.drop()
        self.assertEqual(desk.version, 1)
        kept = []
        with self.assertRaises(ZeroDivisionError):
            with desk.lot() as lot:
                kept.append(lot)
                lot.add(("rod", AB))
                raise ZeroDivisionError
        self.assertEqual((kept[0].is_open, desk.version, len(desk.frame)), (False, 1, 5))
        with self.assertRaises(Refused):
            with desk.lot() as lot:
                lot.add(("no rod", AB))
        self.assertEqual(desk.do((("rod", AB),)), 2)
        lot = desk.lot()
        with lot as same:
            self.assertIs(same, lot)
            self.refused(InvalidOperation, desk.lot)
        self.assertFalse(lot.is_open)

    def test_two_desks(self):
        one, other = Desk(FOUR), Desk(FOUR)
        lot = one.lot()
        self.assertEqual(other.do((("no rod", AB),)), 1)
        lot.add(("no rod", CD))
        lot.end()
        self.assertEqual((one.frame, other.frame), (KITE, FOUR.without_rod("a", "b")))

    def test_a_desk_beside_a_plain_one(self):
        rng = random.Random(1507)
        for _ in range(200):
            frame = random_frame(rng, rng.randrange(1, 7))
            desk, plain = Desk(frame), PlainDesk(frame)
            for _ in range(30):
                self.one_call(rng, desk, plain)
                frame, promises = plain.versions[-1]
                self.assertEqual((desk.frame, desk.promises, desk.version), (frame, promises, len(plain.versions) - 1))
                self.assertTrue(all(does_hold(frame, promise) for promise in promises))
                version = rng.randrange(len(plain.versions))
                copy = desk.at(version)
                self.assertEqual((copy.frame, copy.promises, copy.version), (*plain.versions[version], 0))

    def one_call(self, rng, desk, plain):
        kind = rng.choice(("do", "do", "do", "lot", "promise", "promise", "drop", "undo", "would"))
        frame, promises = plain.versions[-1]
        if kind in ("do", "lot", "would"):
            deeds, here = [], frame
            for _ in range(rng.randrange(1, 5)):
                deeds.append(random_deed(rng, here))
                found = behind(here, deeds[-1:])
                here = here if isinstance(found, tuple) else found
            self.check_deeds(kind, desk, plain, tuple(deeds))
        elif kind == "promise":
            promise = rng.choice(all_promises(frame))
            wanted = plain.promise(promise)
            if isinstance(wanted, tuple):
                reason = self.refused(Refused, desk.promise, promise).reason
                self.assertEqual(reason[:2], wanted)
                self.assertTrue(is_own_paper(frame, promise, reason[2]))
            elif wanted == 8 and not isinstance(wanted, bool):
                self.refused(TooMany, desk.promise, promise, kept=8)
            else:
                self.assertIs(desk.promise(promise), wanted)
        elif kind == "drop" and promises:
            promise = rng.choice(promises)
            plain.versions.append((frame, tuple(other for other in promises if other != promise)))
            self.assertEqual(desk.drop(promise), len(plain.versions) - 1)
        elif kind == "undo":
            count = rng.randrange(1, 4)
            if count >= len(plain.versions):
                self.refused(NothingToUndo, desk.undo, count, kept=count)
            else:
                del plain.versions[-count:]
                self.assertEqual(desk.undo(count), len(plain.versions) - 1)

    def check_deeds(self, kind, desk, plain, deeds):
        frame = plain.versions[-1][0]
        if kind == "would":
            found = behind(frame, deeds)
            if isinstance(found, tuple):
                self.refused(Refused, desk.would, deeds, kept=("deed", *found))
            else:
                self.assertEqual(desk.would(deeds), tuple(plain.broken(found)))
            return
        if kind == "lot":
            lot, taken = desk.lot(), []
            for deed in deeds:
                found = behind(frame, [*taken, deed])
                if isinstance(found, tuple):
                    self.refused(Refused, lot.add, deed, kept=("deed", *found))
                else:
                    taken.append(deed)
                    self.assertEqual(lot.add(deed), len(taken))
                    self.assertEqual(lot.frame, found)
            call, deeds = lot.end, taken
        else:
            call = lambda: desk.do(deeds)
        wanted = plain.do(deeds)
        if isinstance(wanted, int):
            self.assertEqual(call(), wanted)
        else:
            reason = self.refused(Refused, call).reason
            self.assertEqual(reason[:len(wanted)], wanted)
            if wanted[0] == "broken":
                self.assertTrue(is_own_paper(behind(frame, deeds), wanted[1], reason[2]))

    def test_objects_that_were_handed_out(self):
        desk = Desk(FOUR)
        desk.promise(("told", 2))
        frame, promises = desk.frame, desk.promises
        lot = desk.lot()
        ahead = lot.frame
        lot.add(("pin", "e", ("a", "b", "c")))
        between = lot.frame
        lot.add(("no rod", AB))
        lot.end()
        desk.drop(("told", 2))
        self.assertEqual((told(frame), promises, told(ahead)), (told(FOUR), (("told", 2),), told(FOUR)))
        self.assertEqual(str(between), "frame of 5 pins, 9 rods")
        deeds = (("rod", AB),)
        before = told(deeds)
        desk.do(deeds)
        self.assertEqual(told(deeds), before)

    def test_iteration_and_lengths(self):
        desk = Desk(WHEEL)
        desk.promise(("told", 2))
        self.assertEqual([promise for promise in desk], [("told", 2)])
        for value in (desk.lot(),):
            self.assertRaises(TypeError, iter, value)
            self.assertRaises(TypeError, len, value)
        self.assertEqual(Desk(LOOSE_EIGHT), Desk(LOOSE_EIGHT))
        self.assertEqual([("few", 0) in Desk(LOOSE_EIGHT), list(itertools.chain(Desk(SINGLE)))], [False, []])
