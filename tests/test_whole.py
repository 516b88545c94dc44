"""What the document says of the whole program: promises 0.2, 0.20 and the papers of 16.4."""

import itertools
import random

from lengthstell.base.rows import rank
from lengthstell.book.desks import Desk
from lengthstell.book.promises import is_paper_against, paper_against
from lengthstell.count.blocks import blocks, circuit_with, is_parting, parting, spare_rods
from lengthstell.count.counts import crowd, is_crowd, is_firm, is_pebbles, pebbles
from lengthstell.drive.drivers import driven_paper, is_driven_paper, moved, velocities
from lengthstell.drive.wishes import are_fewest_drivers, barred_move, fewest_drivers, is_barred_move
from lengthstell.frame.cuts import cuts
from lengthstell.frame.frames import Frame
from lengthstell.ground.parts import are_heads, heads, parts
from lengthstell.ground.places import is_place, rank_at_place, stand_place
from lengthstell.ground.stands import Stand, is_just_firm, is_stand_parting, stand_parting
from lengthstell.join.papers import joined_paper
from lengthstell.join.sums import summed_weights
from lengthstell.place.built import build_row, free_placing, is_build_row, is_free_placing
from lengthstell.place.placings import balances, is_balance, is_firm_at, is_motion, is_placing, motions, weight_table
from lengthstell.small.changes import change_paper, is_change_paper
from lengthstell.text.formats import is_data, read_data, write_data
from lengthstell.text.shell import Shell
from lengthstell.told.enough import are_families, enough, lacking
from lengthstell.told.rows import are_right_rows, placing_of_rows, right_rows
from lengthstell.told.steps import is_told_row, told_row
from lengthstell.told.told import is_told, is_told_paper, told_paper
from tests import oracles
from tests import stands as slow
from tests.examples import EIGHT, FOUR, KITE, NAMED, SEVEN, SQUARE, THREES, TWIN, WHEEL, pairs, random_frame, random_placing, random_told_frame, subsets
from tests.refusals import WRONG, Refusals, told
from tests.stands import ARM, DEALT, DOUBLE, EVEN, LADDER, LEVEL, LONE, MANY, PLACE, SPOTS, TRIPOD, random_just_firm_stand, random_stand, rods

SOME = NAMED + (SEVEN,)
STANDS = (ARM, EVEN, LADDER, TRIPOD, LONE, DOUBLE, MANY, DEALT)


class WholeTest(Refusals):

    def through_text(self, value):
        """The value, written as a text and read again."""
        self.assertIs(is_data(value), True)
        text = write_data(value)
        found = read_data(text)
        self.assertEqual(found, value)
        self.assertEqual(write_data(found), text)
        self.assertEqual(told(found), told(value))
        return found

    def judged(self, judge, frame, value, *more, **keywords):
        """Sees that a paper is judged a paper, and that it is still one when it has been written and read."""
        self.assertIs(judge(frame, *more, value, **keywords), True)
        self.assertIs(judge(frame, *more, self.through_text(value), **keywords), True)

    def test_papers_of_frames(self):
        rng = random.Random(1641)
        for frame in SOME + tuple(random_frame(rng) for _ in range(15)):
            for space in (1, 2):
                self.check_counts(frame, space)
                self.judged(is_free_placing, frame, free_placing(frame, space=space), space=space)
                if len(frame.pins) <= 7:
                    self.judged(is_told_paper, frame, told_paper(frame, space=space), space=space)
                    rows = right_rows(frame, space=space)
                    if rows is not None:
                        self.judged(are_right_rows, frame, rows, space=space)
                        placing, weights = self.through_text(placing_of_rows(frame, rows, space=space))
                        self.assertIs(is_balance(frame, placing, weights), True)
                for promise in (("firm", space), ("told", space), ("spare", ("a", "b"), space), ("few", len(frame) // 2)):
                    value = paper_against(frame, promise)
                    if value is not None:
                        self.judged(is_paper_against, frame, value, promise)
            row = told_row(frame)
            if row is not None:
                self.judged(is_told_row, frame, row)
            if is_firm(frame) and len(frame) == 2 * len(frame.pins) - 3:
                self.judged(is_build_row, frame, build_row(frame))

    def check_counts(self, frame, space):
        self.judged(is_parting, frame, parting(frame, space=space), space=space)
        value = pebbles(frame, space=space)
        if value is None:
            self.judged(is_crowd, frame, crowd(frame, space=space), space=space)
        else:
            self.judged(is_pebbles, frame, value, space=space)
        for rod in frame.rods[:3]:
            self.through_text(circuit_with(frame, rod, space=space))

    def test_papers_at_placings(self):
        rng = random.Random(1642)
        for frame in SOME:
            placing = random_placing(rng, frame, 2, 10 ** 20)
            self.assertIs(is_placing(frame, self.through_text(placing)), True)
            for value in motions(frame, placing):
                self.judged(is_motion, frame, value, placing)
            for value in balances(frame, placing):
                self.judged(is_balance, frame, value, placing)
            for change in ({rod: rng.randrange(-9, 9) for rod in frame.rods}, {rod: 0 for rod in frame.rods}):
                self.judged(is_change_paper, frame, change_paper(frame, placing, change), placing, self.through_text(change))
            offered = frame.missing[:3]
            self.judged(are_families, frame, (enough(frame, offered), lacking(frame, offered)), offered)

    def test_papers_of_two_frames(self):
        other = Frame.full(("b", "c", "d", "e"))
        joined = joined_paper(FOUR, told_paper(FOUR), other, told_paper(other))
        self.judged(is_told_paper, FOUR | other, joined)
        side = Frame.full(("a", "b", "e", "f"))
        self.through_text(summed_weights(FOUR, told_paper(FOUR)[2], side, told_paper(side)[2]))

    def test_papers_of_stands(self):
        rng = random.Random(1643)
        just_firm = [random_just_firm_stand(rng, many) for many in range(1, 9)]
        for stand in list(STANDS) + just_firm + [random_stand(rng) for _ in range(10)]:
            self.judged(is_stand_parting, stand, stand_parting(stand))
            self.judged(is_place, stand, stand_place(stand))
            if not is_just_firm(stand):
                continue
            self.judged(are_heads, stand, heads(stand))
            for _ in range(3):
                driven = tuple(tie for tie in stand.ties if rng.random() < 0.3)
                self.judged(is_driven_paper, stand, driven_paper(stand, driven), driven)
                lot = tuple(pin for pin in stand.frame.pins if rng.random() < 0.5)
                self.judged(are_fewest_drivers, stand, fewest_drivers(stand, lot), lot)
                if barred_move(stand, lot) is not None:
                    self.judged(is_barred_move, stand, barred_move(stand, lot), lot)
            place, found = self.through_text((stand_place(stand), velocities(stand, stand_place(stand), {})))
            self.assertEqual(velocities(stand, place, {}), found)

    def test_firm_frames_that_are_not_told(self):
        # 0.20: a firm frame is told; one that no two pins cut is; one whose rods are all spare is.
        self.assertEqual((is_firm(KITE), is_told(KITE)), (True, False))
        self.assertEqual((is_firm(THREES), cuts(THREES, 2), is_told(THREES)), (True, (), False))
        self.assertEqual((is_firm(TWIN), spare_rods(TWIN) == TWIN.rods, is_told(TWIN)), (True, True, False))

    def test_frames_that_are_put_together(self):
        # 0.20: two told frames with two common pins make a told frame.
        side = Frame.full(("a", "b", "e", "f"))
        self.assertEqual((is_told(FOUR), is_told(side), FOUR | side == TWIN, is_told(FOUR | side)), (True, True, True, False))

    def test_a_placing_that_is_not_firm(self):
        # 0.20: a placing with weights in balance whose table is a sum of squares of rank d is firm.
        placing, weights = placing_of_rows(THREES, right_rows(THREES))
        self.assertEqual((is_balance(THREES, placing, weights), oracles.square_sum_rank(weight_table(THREES, weights))), (True, 3))
        self.assertIs(is_firm_at(THREES, placing), False)

    def test_the_line_and_the_plane(self):
        # 0.20: a frame that is told on the line is told in the plane.
        self.assertEqual((is_told(KITE, space=1), is_told(KITE)), (True, False))

    def test_least_lots(self):
        # 0.20: least lots of further rods that make a frame told have equally many rods.
        two = Frame(("a", "b", "c", "d", "e", "f"), pairs("ab ac ad ae af bc bd be cd cf"))
        self.assertEqual(sorted(len(lot) for lot in enough(two, pairs("ce df ef"))), [1, 2])

    def test_stands_that_are_dealt(self):
        # 0.20: if each pin can bear two ties, a stand is just firm.
        self.assertTrue(slow.all_heads(DEALT))
        self.assertIs(is_just_firm(DEALT), False)

    def test_what_is_driven(self):
        # 0.20: a driven rod moves both of its ends; a pin that stands still in one firm placing does so in all.
        self.assertEqual(moved(ARM, rods("cd")), ("d",))
        straight = ({**PLACE[0], "d": (0, 5)}, PLACE[1])
        self.assertEqual(velocities(ARM, straight, {("rod", "b", "c"): 4})[0]["d"], (0, 0))
        self.assertNotEqual(velocities(ARM, PLACE, {("rod", "b", "c"): 4})[0]["d"], (0, 0))

    def test_parts_and_blocks(self):
        # 0.20: the parts of a stand are the blocks of its frame.
        self.assertEqual((blocks(LADDER.frame), parts(LADDER)), ((("a", "b", "c", "d"),), (("a", "b", "c"), ("d",))))

    def test_slides_of_one_direction(self):
        # 0.20: slides of one direction hold a frame as slides of unlike directions do.
        equal = {pin: ((2, 3),) for pin in "abc"}
        self.assertEqual(rank_at_place(EVEN, (SPOTS, equal)), 5)
        self.assertEqual(rank_at_place(EVEN, (SPOTS, {**equal, "c": ((1, -1),)})), 6)
        self.assertEqual(rank_at_place(TRIPOD, (SPOTS, LEVEL)), 6)

    def test_comparisons_of_any_values(self):
        objects = (KITE, ARM, Desk(KITE), Desk(KITE).lot(), Shell(KITE))
        for one, value in itertools.product(objects, WRONG):
            self.assertEqual(one != value, not one == value)
            if not isinstance(one, (Shell, objects[3].__class__)):
                self.assertIn(value in one, (True, False))

    def test_iteration(self):
        desk = Desk(KITE)
        for value, wanted in ((KITE, KITE.rods), (ARM, ARM.ties), (desk, ())):
            self.assertEqual(tuple(value), wanted)
        for value in (Shell(KITE), desk.lot()):
            with self.assertRaises(TypeError):
                iter(value)

    def test_told_frames_by_their_statement(self):
        # 0.16 with its counts, and 0.15 with a paper.
        rng = random.Random(16)
        for frame in [random_told_frame(rng, many) for many in (5, 6, 7)] + [WHEEL, SEVEN]:
            word, placing, weights = told_paper(frame)
            self.assertEqual((word, oracles.is_told(frame, 2), oracles.shows_told(frame, placing, weights, 2)), ("told", True, True))
            self.assertEqual(rank(weight_table(frame, weights)), len(frame.pins) - 3)
        self.assertEqual(len(list(subsets(EIGHT.pins))), 256)
        self.assertEqual(sorted(SQUARE), list("abcd"))
