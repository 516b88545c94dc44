"""Promises about frames: promises 15.1 and 15.2."""

import itertools
import random

from lengthstell.book import promises as promise_module
from lengthstell.book.promises import does_hold, is_paper_against, is_promise, paper_against
from lengthstell.errors import InvalidFrame, InvalidPromise
from lengthstell.frame.frames import Frame
from lengthstell.told.told import is_told_paper, told_paper
from tests import oracles
from tests.examples import EIGHT, FOUR, JOINED, KITE, LOOSE_EIGHT, NAMED, SINGLE, THREES, TOO_LONG, TWIN, WHEEL
from tests.examples import all_frames, pairs, random_frame, random_told_frame, subsets
from tests.refusals import WRONG, Refusals, is_frame, never, told

AB = ("a", "b")


def all_promises(frame):
    """Promises of each kind about a frame, also about pairs that are no rods of it."""
    some = [(word, space) for word in ("firm", "told") for space in (1, 2)]
    some += [("spare", pair, space) for pair in itertools.combinations(frame.pins, 2) for space in (1, 2)]
    some += [("spare", pair, 2) for pair in (("a", "zz"), ("y", "z"))]
    return some + [("few", number) for number in (0, len(frame) - 1, len(frame), 28) if number >= 0]


def holds(frame, promise):
    """Whether a promise holds, by its words."""
    word, *rest = promise
    if word == "firm":
        return oracles.is_firm(frame, rest[0])
    if word == "told":
        return oracles.is_told(frame, rest[0])
    if word == "spare":
        return rest[0] in oracles.spare_rods(frame, rest[1])
    return len(frame.rods) <= rest[0]


def is_own_paper(frame, promise, value):
    """Whether a tuple is a paper against a promise, by 15.2."""
    word, *rest = promise
    most = oracles.full_count(len(frame.pins), rest[-1])
    if word == "firm":
        return (
            len(value) == 2 and value[0] == "loose" and oracles.is_parting_of(frame.rods, value[1])
            and oracles.parting_sum(value[1], rest[0]) < most
        )
    if word == "told":
        return value[0] in ("cut", "needed", "loose") and oracles.shows_not_told(frame, value, rest[0])
    if word == "few":
        return value == ("many", len(frame.rods)) and len(frame.rods) > rest[0]
    if rest[0] not in frame.rods:
        return value == ("away", rest[0])
    others = tuple(rod for rod in frame.rods if rod != rest[0])
    _, lot, lots = value
    return (
        value[0] == "needed" and lot == tuple(rod for rod in frame.rods if rod in lot) and oracles.is_sparse(lot, rest[1])
        and oracles.is_parting_of(others, lots) and oracles.parting_sum(lots, rest[1]) < len(lot)
    )


class PromisesTest(Refusals):

    def test_examples(self):
        found = [
            does_hold(KITE, ("firm", 2)), does_hold(KITE, ("told", 1)), does_hold(WHEEL, ("spare", AB, 2)),
            paper_against(KITE, ("few", 4)), paper_against(KITE, ("spare", ("c", "d"), 2)),
        ]
        self.assertEqual(found, [True, True, True, ("many", 5), ("away", ("c", "d"))])
        value = ("needed", KITE.rods, (pairs("ac"), pairs("ad"), pairs("bc"), pairs("bd")))
        found = [is_paper_against(KITE, ("spare", AB, 2), value), is_promise(("firm", True)), is_promise(("few", 29))]
        self.assertEqual(found, [True, False, False])
        self.assertEqual(promise_module.MAX_FEW, 28)

    def test_promises(self):
        right = [("firm", 1), ("firm", 2), ("told", 1), ("told", 2), ("few", 0), ("few", 28), ("spare", AB, 1), ("spare", ("y", "zzzz"), 2)]
        for value in right:
            self.assertIs(is_promise(value), True)
        wrong = [
            ("firm", 0), ("firm", 3), ("told", True), ("told", "2"), ("told",), ("told", 2, 2), ("few", -1), ("few", 29), ("few", True),
            ("few", False), ("few", TOO_LONG), ("few", None), ("few",), ("few", 1, 2), ("spare", AB), ("spare", AB, 3), ("spare", AB, True),
            ("spare", ("b", "a"), 2), ("spare", ("a", "a"), 2), ("spare", ["a", "b"], 2), ("spare", "ab", 2), ("spare", ("a", "abcde"), 2),
            ("spare", ("a", "b", "c"), 2), ("spare", AB, 2, 2), ["firm", 2], ("loose", 2), (2, "firm"), "firm", ("Firm", 2), (), (("firm", 2),),
            ("spare", 2), ("spare", 2, AB), ("firm", AB, 2), (None, 2), ("few", (1,)), {"firm": 2},
        ]
        for value in wrong + list(WRONG):
            self.assertIs(is_promise(value), False)
            self.refused(InvalidPromise, does_hold, FOUR, value)
            self.refused(InvalidPromise, paper_against, FOUR, value)
            self.refused(InvalidPromise, is_paper_against, FOUR, value, None)

    def test_all_small_frames(self):
        for pins in ("a", "ab", "abc", "abcd"):
            for frame in all_frames(pins):
                self.check_frame_with(frame, all_promises(frame))

    def test_many_frames(self):
        rng = random.Random(1501)
        some = [random_frame(rng, many) for many in (5, 6, 7, 8) * 10] + [random_told_frame(rng, many) for many in (5, 6, 7, 8)]
        for frame in some + list(NAMED):
            self.check_frame_with(frame, rng.sample(all_promises(frame), 9))
            self.check_frame_with(frame, [("told", 1), ("told", 2)])

    def check_frame_with(self, frame, some):
        for promise in some:
            self.assertIs(is_promise(promise), True)
            wanted = holds(frame, promise)
            self.assertIs(does_hold(frame, promise), wanted)
            value = paper_against(frame, promise)
            self.assertEqual(value is None, wanted)
            if value is None:
                continue
            self.assertIsInstance(value, tuple)
            self.assertTrue(is_own_paper(frame, promise, value))
            self.assertIs(is_paper_against(frame, promise, value), True)

    def test_no_paper_against_what_holds(self):
        some = [("loose", ()), ("loose", (FOUR.rods,)), ("cut", AB, ("c",)), ("many", 6), ("away", AB), ("needed", AB, (FOUR.rods[1:],)),
                ("needed", FOUR.rods, (FOUR.rods[1:],)), ("needed", FOUR.rods[1:], (FOUR.rods[1:],)), None]
        # A paper that the frame is told is none against it.
        self.assertIs(is_told_paper(FOUR, told_paper(FOUR)), True)
        self.assertIs(is_paper_against(FOUR, ("told", 2), told_paper(FOUR)), False)
        self.assertIs(is_paper_against(FOUR, ("told", 1), told_paper(FOUR, space=1)), False)
        for promise in (("firm", 2), ("told", 2), ("spare", AB, 2), ("few", 6), ("few", 28)):
            self.assertIs(does_hold(FOUR, promise), True)
            for value in some:
                self.assertIs(is_paper_against(FOUR, promise, value), False)

    def test_papers_of_others(self):
        # Other partings, other lots, other sides than the package would tell.
        loose = Frame(tuple("abcd"), pairs("ab bc cd"))
        for lots in oracles.partings(loose.rods):
            for space in (1, 2):
                wanted = oracles.parting_sum(lots, space) < oracles.full_count(4, space)
                self.assertIs(is_paper_against(loose, ("firm", space), ("loose", lots)), wanted)
                self.assertIs(is_paper_against(loose, ("told", space), ("loose", lots)), wanted)
        for lot in subsets(KITE.rods):
            for lots in oracles.partings(KITE.rods[1:]):
                value = ("needed", lot, lots)
                self.assertIs(is_paper_against(KITE, ("spare", AB, 2), value), is_own_paper(KITE, ("spare", AB, 2), value))
        for lot in itertools.combinations(TWIN.pins, 2):
            for side in subsets(TWIN.pins):
                value = ("cut", lot, side)
                self.assertIs(is_paper_against(TWIN, ("told", 2), value), is_own_paper(TWIN, ("told", 2), value))
        rod = ("a", "c")
        value = ("needed", rod, tuple((other,) for other in KITE.rods if other != rod))
        self.assertIs(is_paper_against(KITE, ("told", 2), value), True)
        self.assertIs(is_paper_against(KITE, ("told", 2), ("told",) + value[1:]), False)

    def test_eight_pins(self):
        cut = FOUR | Frame.full(("d", "e", "f", "g")) | Frame.full(("a", "g", "h"))
        chain = Frame(tuple("abcdefgh"), pairs("ab bc cd de ef fg gh"))
        needed = THREES.without_rod("a", "d").with_pin("g", "a", "d", "b").without_rod("b", "e").with_pin("h", "b", "e", "g")
        seen = set()
        for frame in (cut, chain, needed, LOOSE_EIGHT):
            for space in (1, 2):
                value = paper_against(frame, ("told", space))
                if value is not None:
                    self.assertTrue(is_own_paper(frame, ("told", space), value))
                    self.assertIs(is_paper_against(frame, ("told", space), value), True)
                    seen.add(value[0])
        self.assertEqual(seen, {"loose", "cut", "needed"})
        self.assertIsNone(paper_against(EIGHT, ("told", 2)))
        self.assertIs(does_hold(EIGHT, ("few", 28)), True)
        self.assertEqual(paper_against(EIGHT, ("few", 27)), ("many", 28))

    def test_pairs_that_are_no_rods(self):
        for frame in (KITE, SINGLE, LOOSE_EIGHT):
            for pair in (("y", "z"), ("a", "zzzz"), ("c", "d")):
                for space in (1, 2):
                    promise = ("spare", pair, space)
                    self.assertIs(does_hold(frame, promise), False)
                    self.assertEqual(paper_against(frame, promise), ("away", pair))
                    self.assertIs(is_paper_against(frame, promise, ("away", pair)), True)
                    self.assertIs(is_paper_against(frame, promise, ("away", ("a", "b"))), False)
        self.assertIs(is_paper_against(KITE, ("spare", AB, 2), ("away", AB)), False)

    def test_papers_that_are_wrong_in_one_place(self):
        lots = (pairs("ac"), pairs("ad"), pairs("bc"), pairs("bd"))
        promise = ("spare", AB, 2)
        self.assertIs(is_paper_against(KITE, promise, ("needed", KITE.rods, lots)), True)
        wrong = [
            ["needed", KITE.rods, lots], ("needed", KITE.rods), ("needed", KITE.rods, lots, 1), ("needed", lots, KITE.rods), ("loose", lots),
            ("needed", list(KITE.rods), lots), ("needed", KITE.rods, list(lots)), ("needed", KITE.rods[1:], lots), ("needed", KITE.rods[::-1], lots),
            ("needed", FOUR.rods, lots), ("needed", KITE.rods, lots[::-1]), ("needed", KITE.rods, lots[1:]), ("needed", KITE.rods, lots + ((),)),
            ("needed", KITE.rods, (pairs("ab"),) + lots), ("needed", KITE.rods, (pairs("ac ad bc bd"),)), ("Needed", KITE.rods, lots),
            ("needed", KITE.rods + (AB,), lots), ("needed", AB, lots), (KITE.rods, lots), ("needed", KITE.rods[:4] + (["b", "d"],), lots),
        ]
        for value in wrong:
            self.assertIs(is_paper_against(KITE, promise, value), False)
        ring = Frame(tuple("abc"), pairs("ab"))
        for value in (["many", 1], ("many",), ("many", 2), ("many", 0), ("many", True), ("many", "1"), ("many", 1, 1), ("few", 1), ("many", None)):
            self.assertIs(is_paper_against(ring, ("few", 0), value), False)
        self.assertIs(is_paper_against(ring, ("few", 0), ("many", 1)), True)
        self.assertIs(is_paper_against(ring, ("few", 1), ("many", 1)), False)
        self.assertIs(is_paper_against(JOINED, ("firm", 2), ("loose", (pairs("ab ac ad bc bd cd"), pairs("de df dg ef eg fg")))), True)
        lots = (pairs("ab ac ad bc bd cd"), pairs("de df dg ef eg fg"))
        for value in (("lose", lots), ("many", lots), ("loose", lots, 1), ("cut", lots), (lots, "loose"), (None, lots), ("loose", lots[::-1])):
            self.assertIs(is_paper_against(JOINED, ("firm", 2), value), False)
        for value in (("loose",), ("loose", JOINED.rods), ("loose", (JOINED.rods,)), ("loose", ()), ("loose", None), ["loose", ()]):
            self.assertIs(is_paper_against(JOINED, ("firm", 2), value), False)
        for promise in (promise, ("firm", 1), ("told", 2), ("few", 3)):
            for value in WRONG:
                self.assertIs(is_paper_against(KITE, promise, value), False)

    def test_wrong_arguments(self):
        frame = (KITE, InvalidFrame, is_frame)
        promise = (("told", 2), InvalidPromise, never)
        for call in (does_hold, paper_against):
            self.check_arguments(call, [frame, promise])
        self.check_arguments(is_paper_against, [frame, promise, (None, None, never)])

    def test_arguments_stay_and_answers_repeat(self):
        before = told((KITE, ("told", 2)))
        value = paper_against(frame=KITE, promise=("told", 2))
        self.assertEqual(value, paper_against(KITE, ("told", 2)))
        self.assertIs(does_hold(frame=KITE, promise=("told", 2)), False)
        self.assertIs(is_paper_against(frame=KITE, promise=("told", 2), value=value), True)
        self.assertIs(is_promise(value=("told", 2)), True)
        self.assertEqual(told((KITE, ("told", 2))), before)
