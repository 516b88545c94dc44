"""Rods that are enough and rods that can go: promises 8.1 to 8.4."""

import inspect
import itertools
import random

from lengthstell.errors import InvalidFrame, InvalidNumber, InvalidOperation, TooMany
from lengthstell.frame.frames import Frame
from lengthstell.told import enough as enough_module
from lengthstell.told.enough import (
    are_families,
    breaking,
    enough,
    lacking,
    left_out,
    meeting_lots,
    needless,
    told_lots,
)
from lengthstell.told.told import is_told, told_paper
from tests import oracles
from tests.examples import (
    EIGHT,
    FOUR,
    KITE,
    LOOSE_EIGHT,
    SEVEN,
    SINGLE,
    THREES,
    TOO_LONG,
    TWIN,
    WHEEL,
    all_frames,
    pairs,
    random_frame,
    random_told_frame,
    subsets,
)
from tests.refusals import WRONG, Refusals, is_frame, is_space_number, never, told

TWO = Frame(("a", "b", "c", "d", "e", "f"), pairs("ab ac ad ae af bc bd be cd cf"))
FIVE = Frame.full(("a", "b", "c", "d", "e"))
SPACE = {"space": (2, InvalidNumber, is_space_number)}
LETTERS = tuple(itertools.combinations("abcdefgh", 2))


def all_told_lots(frame, offered, *, space=2):
    return list(told_lots(frame, offered, space=space))


def some_lot(rng, pairs_to_choose, most=5):
    pairs_to_choose = list(pairs_to_choose)
    return tuple(sorted(rng.sample(pairs_to_choose, min(len(pairs_to_choose), rng.randrange(most + 1)))))


class EnoughTest(Refusals):

    def test_constants(self):
        found = (enough_module.MOST_OFFERED, enough_module.MOST_LOTS, enough_module.MOST_MEMBERS)
        self.assertEqual(found, (5, 40, 10))

    def test_examples(self):
        self.assertEqual([enough(TWO, pairs("ce df ef")), lacking(TWO, pairs("ce df ef"))], [
            ((("c", "e"), ("d", "f")), (("e", "f"),)), ((("c", "e"),), (("d", "f"),)),
        ])
        found = [
            list(told_lots(TWIN, pairs("ce df"))), enough(FOUR, ()), lacking(FOUR, ()), enough(KITE, ()),
            lacking(KITE, ()), needless(WHEEL),
        ]
        self.assertEqual(found, [
            [(("c", "e"),), (("d", "f"),), (("c", "e"), ("d", "f"))], ((),), (), (), ((),), (),
        ])
        found = [len(needless(FIVE)), left_out(FIVE, pairs("ab ac de")), breaking(FIVE, pairs("ab ac de"))]
        self.assertEqual(found, [
            10, ((("a", "b"), ("d", "e")), (("a", "c"), ("d", "e"))), ((("a", "b"), ("a", "c")),),
        ])
        found = [
            meeting_lots((pairs("ab"), pairs("ac"))), meeting_lots(()), meeting_lots(((),)), needless(KITE, space=1),
        ]
        self.assertEqual(found, [((("a", "b"), ("a", "c")),), ((),), (), (("a", "b"),)])
        self.refused(InvalidOperation, enough, KITE, pairs("ab"))

    def test_all_frames_of_few_pins(self):
        rng = random.Random(101)
        for pins in ("a", "ab", "abc", "abcd"):
            for frame in all_frames(pins):
                for space in (1, 2):
                    self.check_offers(frame, some_lot(rng, frame.missing), space)
                    self.check_doubts(frame, some_lot(rng, frame.rods), space)

    def test_random_frames(self):
        rng = random.Random(102)
        for at in range(40):
            frame = random_frame(rng, rng.randrange(5, 8)) if at % 2 else random_told_frame(rng, rng.randrange(5, 8))
            bare = oracles.without_rods(frame, some_lot(rng, frame.rods))
            for space in (1, 2):
                self.check_offers(bare, some_lot(rng, bare.missing), space)
                self.check_doubts(frame, some_lot(rng, frame.rods), space)

    def check_offers(self, frame, offered, space):
        lots = [lot for lot in subsets(offered) if oracles.is_told(oracles.with_rods(frame, lot), space)]
        lots = sorted(lots, key=lambda lot: (len(lot), lot))
        others = [lot for lot in subsets(offered) if lot not in lots]
        self.assertEqual(all_told_lots(frame, offered, space=space), lots)
        some, rest = enough(frame, offered, space=space), lacking(frame, offered, space=space)
        self.assertEqual((some, rest), (oracles.least(lots), oracles.greatest(others)))
        self.assertIs(are_families(frame, offered, (some, rest), space=space), True)
        self.assertIs(are_families(frame, offered, (rest, some), space=space), False)
        rests = tuple(sorted(tuple(pair for pair in offered if pair not in lot) for lot in rest))
        self.assertEqual((meeting_lots(rests), meeting_lots(some)), (some, rests))
        if len(frame.pins) <= 7:
            for lot in some:
                self.assertEqual(told_paper(oracles.with_rods(frame, lot), space=space)[0], "told")
            for lot in rest:
                self.assertNotEqual(told_paper(oracles.with_rods(frame, lot), space=space)[0], "told")

    def check_doubts(self, frame, doubtful, space):
        lots = [lot for lot in subsets(doubtful) if oracles.is_told(oracles.without_rods(frame, lot), space)]
        others = [lot for lot in subsets(doubtful) if lot not in lots]
        gone, broken = left_out(frame, doubtful, space=space), breaking(frame, doubtful, space=space)
        self.assertEqual((gone, broken), (oracles.greatest(lots), oracles.least(others)))
        rests = tuple(sorted(tuple(rod for rod in doubtful if rod not in lot) for lot in gone))
        self.assertEqual((meeting_lots(rests), meeting_lots(broken)), (broken, rests))
        bare = oracles.without_rods(frame, doubtful)
        self.assertEqual(enough(bare, doubtful, space=space), rests)
        rests = tuple(sorted(tuple(rod for rod in doubtful if rod not in lot) for lot in broken))
        self.assertEqual(lacking(bare, doubtful, space=space), rests)
        some = needless(frame, space=space)
        wanted = [rod for rod in frame.rods if oracles.is_told(oracles.without_rods(frame, (rod,)), space)]
        self.assertEqual(some, tuple(wanted))
        for rod in doubtful:
            self.assertIs(rod in some, left_out(frame, (rod,), space=space) == ((rod,),))

    def test_eight_pins(self):
        rng = random.Random(103)
        self.assertEqual((needless(EIGHT), needless(EIGHT, space=1)), (EIGHT.rods, EIGHT.rods))
        self.assertEqual(left_out(EIGHT, pairs("ab ac ad ae af")), (pairs("ab ac ad ae"),) + tuple(
            tuple(rod for rod in pairs("ab ac ad ae af") if rod != gone) for gone in pairs("ae ad ac ab")))
        for _ in range(4):
            frame = random_told_frame(rng, 8)
            doubtful = some_lot(rng, frame.rods)
            bare = oracles.without_rods(frame, doubtful)
            lots = [lot for lot in subsets(doubtful) if is_told(oracles.with_rods(bare, lot))]
            self.assertEqual(enough(bare, doubtful), oracles.least(lots))

    def test_told_already_and_never_told(self):
        for frame, offered in ((WHEEL, pairs("bd ce")), (FIVE, ()), (SINGLE, ())):
            self.assertEqual((enough(frame, offered), lacking(frame, offered)), (((),), ()))
            self.assertEqual(all_told_lots(frame, offered)[0], ())
            self.assertIs(are_families(frame, offered, (((),), ())), True)
        for frame, offered in ((LOOSE_EIGHT, LETTERS[:5]), (KITE, ()), (TWIN, ())):
            self.assertEqual((enough(frame, offered), lacking(frame, offered)), ((), (offered,)))
            self.assertEqual(all_told_lots(frame, offered), [])
            self.assertIs(are_families(frame, offered, ((), (offered,))), True)
        for frame in (KITE, TWIN, THREES):
            self.assertEqual((left_out(frame, frame.rods[:3]), breaking(frame, frame.rods[:3])), ((), ((),)))
            self.assertEqual((left_out(frame, ()), breaking(frame, ())), ((), ((),)))
            self.assertEqual(needless(frame), ())
        self.assertEqual((left_out(FOUR, ()), breaking(FOUR, ())), (((),), ()))
        rods = WHEEL.rods[:5]
        self.assertEqual((left_out(WHEEL, rods), breaking(WHEEL, rods)), (((),), tuple((rod,) for rod in rods)))
        self.assertEqual((left_out(SEVEN, SEVEN.rods[:5]), needless(SEVEN)), ((pairs("ab"),), pairs("ab bc")))

    def test_five_offered_pairs_and_six(self):
        five, six = EIGHT.rods[:5], EIGHT.rods[:6]
        bare = oracles.without_rods(EIGHT, six)
        self.assertEqual(len(all_told_lots(oracles.without_rods(EIGHT, five), five)), 31)
        for call in (enough, lacking, all_told_lots):
            self.refused(TooMany, call, bare, six, kept=5)
            self.refused(InvalidNumber, call, bare, six, space=3, kept=3)
            self.refused(InvalidOperation, call, bare, six[::-1], space=3)
        self.refused(TooMany, are_families, bare, six, None, kept=5)
        for call in (left_out, breaking):
            self.assertEqual(call(EIGHT, five), call(frame=EIGHT, doubtful=five, space=2))
            self.refused(TooMany, call, EIGHT, six, kept=5)
            self.refused(InvalidNumber, call, EIGHT, six, space=0, kept=0)
            self.refused(InvalidOperation, call, EIGHT, six + six, space=0)

    def test_families_of_others(self):
        offered = pairs("ce df ef")
        right = ((pairs("ce df"), pairs("ef")), (pairs("ce"), pairs("df")))
        self.assertIs(are_families(TWO, offered, right), True)
        wrong = (
            list(right), right[::-1], (list(right[0]), right[1]), (right[0], list(right[1])), right + ((),), right[:1],
            (right[0][::-1], right[1]), (right[0], right[1][::-1]), (right[0][1:], right[1]), (right[0], right[1][1:]),
            ((pairs("ce df ef"),), right[1]), ((list(pairs("ce df")), pairs("ef")), right[1]), (right[0], ((),)),
            ((pairs("df ce"), pairs("ef")), right[1]), ((pairs("ce df"), pairs("fe")), right[1]), None, (), {}, TWO,
            (right[0] + right[0], right[1]), (right[0], right[1] + (pairs("ef"),)), (None, right[1]), (right[0], True),
        )
        for value in wrong:
            self.assertIs(are_families(TWO, offered, value), False)
        for value in WRONG:
            self.assertIs(are_families(TWO, offered, value), False)
            self.assertIs(are_families(FOUR, (), value, space=1), False)

    def test_lots_that_are_wrong_in_one_place(self):
        wrong = (
            list(pairs("ce df")), pairs("df ce"), pairs("ec df"), pairs("ce ce"), (["c", "e"],), ("ce",), (None,),
            pairs("ce dx"), pairs("cc"), (pairs("ce"),), ((("c", "e", "f")),), None, "ce", {("c", "e"): True}, (True,),
        )
        for value in wrong + (pairs("ab"), pairs("ab ce")):
            for call in (enough, lacking, all_told_lots):
                self.refused(InvalidOperation, call, TWIN, value)
                self.refused(InvalidOperation, call, TWIN, value, space=3)
            self.refused(InvalidOperation, are_families, TWIN, value, None)
        for value in wrong + (pairs("ce"), pairs("ab ce")):
            for call in (left_out, breaking):
                self.refused(InvalidOperation, call, TWIN, value)
                self.refused(InvalidOperation, call, TWIN, value, space=True)

    def test_wrong_arguments(self):
        frame, empty = (WHEEL, InvalidFrame, is_frame), ((), InvalidOperation, lambda value: value == ())
        self.check_arguments(needless, [frame], SPACE)
        for call in (enough, lacking, all_told_lots, left_out, breaking):
            self.check_arguments(
                call, [frame, ((), InvalidOperation, lambda value: value in ((), (("a", "b"),)))], SPACE)
        self.check_arguments(are_families, [
            frame, ((), InvalidOperation, lambda value: value in ((), (("a", "b"),))), (None, None, never)], SPACE)
        self.check_arguments(meeting_lots, [empty[:2] + (lambda value: value in ((), ((),), ((("a", "b"),),)),)])
        for call in (needless, enough):
            with self.assertRaises(TypeError):
                call(WHEEL, (), 2)

    def test_told_lots_is_a_generator(self):
        self.assertTrue(inspect.isgeneratorfunction(told_lots))
        for args, error in (((None, ()), InvalidFrame), ((KITE, None), InvalidOperation),
                            ((LOOSE_EIGHT, EIGHT.rods[:6]), TooMany)):
            made = told_lots(*args)
            self.assertTrue(inspect.isgenerator(made))
            self.refused(error, next, made)
        made = told_lots(KITE, (), space=3)
        self.refused(InvalidNumber, next, made, kept=3)
        made = told_lots(TWIN, pairs("ce df"))
        self.assertEqual(next(made), pairs("ce"))
        self.assertEqual(list(made), [pairs("df"), pairs("ce df")])

    def test_what_is_not_true(self):
        self.assertEqual({len(lot) for lot in enough(TWO, pairs("ce df ef"))}, {1, 2})
        self.assertEqual(left_out(FIVE, pairs("ab ac")), (pairs("ab"), pairs("ac")))
        # An offered pair that is in no lot that is enough.
        frame = FOUR.with_pin("e", "a", "b")
        self.assertEqual(enough(frame, pairs("ce de")), (pairs("ce"), pairs("de")))
        frame = KITE.with_pin("e", "a", "b", "c")
        offered = pairs("cd de")
        in_lots = {pair for lot in enough(frame, offered) for pair in lot}
        self.assertEqual((is_told(frame), in_lots), (False, {("d", "e"), ("c", "d")}))
        frame = FOUR.with_pin("e", "a", "b").with_pin("f", "a", "b")
        self.assertEqual(enough(frame, pairs("ce cf ef")), (pairs("ce cf"), pairs("ce ef"), pairs("cf ef")))
        frame = FOUR.with_pin("e", "a", "b", "c").without_rod("a", "b")
        self.assertEqual((is_told(frame), is_told(FOUR.with_pin("e", "a", "b").with_pin("f", "a", "b", "c"))),
                         (True, False))
        frame = FOUR.with_pin("e", "a", "b").with_pin("f", "a", "b", "c")
        self.assertEqual(enough(frame, pairs("ce df")), (pairs("ce"),))

    def test_arguments_stay_and_answers_repeat(self):
        value = ((pairs("ce df"), pairs("ef")), (pairs("ce"), pairs("df")))
        before = told(value)
        for _ in range(2):
            self.assertIs(are_families(frame=TWO, offered=pairs("ce df ef"), value=value, space=2), True)
            self.assertEqual(enough(frame=TWO, offered=pairs("ce df ef"), space=2), value[0])
            self.assertEqual(lacking(frame=TWO, offered=pairs("ce df ef"), space=2), value[1])
            self.assertEqual(list(told_lots(frame=TWO, offered=(), space=2)), [])
            self.assertEqual(meeting_lots(lots=value[0]), (pairs("ce ef"), pairs("df ef")))
        self.assertEqual(told(value), before)


class MeetingLotsTest(Refusals):

    def test_random_lots(self):
        rng = random.Random(104)
        for _ in range(120):
            members = rng.sample(LETTERS, rng.randrange(1, 8))
            lots = tuple(sorted({some_lot(rng, members, 4) or tuple(members[:1]) for _ in range(rng.randrange(7))}))
            self.assertEqual(meeting_lots(lots), oracles.meeting_lots(lots))

    def test_ten_pairs_and_eleven(self):
        ten = tuple(sorted(LETTERS[:10]))
        singles = tuple((pair,) for pair in ten)
        self.assertEqual((meeting_lots((ten,)), meeting_lots(singles)), (singles, (ten,)))
        self.refused(InvalidOperation, meeting_lots, (LETTERS[:11],))
        self.refused(InvalidOperation, meeting_lots, tuple((pair,) for pair in LETTERS[:11]))
        halves = tuple(itertools.combinations(ten, 2))[:40]
        self.assertEqual(meeting_lots(halves), oracles.meeting_lots(halves))

    def test_forty_lots_and_forty_one(self):
        ten = LETTERS[:10]
        lots = tuple(sorted(itertools.combinations(ten, 5)))[:41]
        self.assertEqual(meeting_lots(lots[:40]), oracles.meeting_lots(lots[:40]))
        self.refused(InvalidOperation, meeting_lots, lots)
        with_empty = ((),) + lots[:39]
        self.assertEqual(meeting_lots(with_empty), ())

    def test_lots_with_the_empty_lot(self):
        self.assertEqual((meeting_lots(()), meeting_lots(((),))), (((),), ()))
        self.assertEqual(meeting_lots(((), pairs("ab"))), ())
        self.assertEqual(meeting_lots((pairs("ab"), pairs("ab ac"))), (pairs("ab"),))
        self.assertEqual(meeting_lots((pairs("ab ac"), pairs("ac ad"))), (pairs("ab ad"), pairs("ac")))
        self.assertEqual(meeting_lots(((("ab", "zzzz"),),)), ((("ab", "zzzz"),),))

    def test_lots_that_are_wrong_in_one_place(self):
        wrong = (
            [pairs("ab")], (list(pairs("ab")),), (pairs("ba"),), (pairs("ac ab"),), (pairs("ab ab"),), pairs("ab"),
            (pairs("ac"), pairs("ab")), (pairs("ab"), pairs("ab")), ((("a",),),), ((("a", "b", "c"),),), (None,), None,
            ((("a", 1),),), ((("a", "bbbbb"),),), ((("A", "b"),),), ((["a", "b"],),), (pairs("ab"), ()), {(): ()}, "ab",
            (pairs("ab"), None), (pairs("ab"), pairs("ac") + (None,)), ((True,),), (TOO_LONG,),
        )
        for lots in wrong:
            self.refused(InvalidOperation, meeting_lots, lots)
