"""Ties that are driven: promises 13.1 to 13.5."""

import itertools
import random
from fractions import Fraction
from math import gcd

from lengthstell.drive.drivers import (
    driven_paper,
    is_driven_paper,
    is_still_lot,
    moved,
    pair_pace,
    still,
    velocities,
)
from lengthstell.errors import (
    InvalidDirections,
    InvalidOperation,
    InvalidPlacing,
    InvalidStand,
    Refused,
    UnknownName,
)
from lengthstell.frame.frames import Frame
from lengthstell.ground.places import is_firm_at_place, stand_place
from lengthstell.ground.stands import Stand, is_just_firm
from tests import oracles
from tests import stands as slow
from tests.examples import FOUR, LONGEST, SQUARE, TOO_LONG, pairs, random_placing, subsets
from tests.refusals import WRONG, Refusals, is_stand, never, told
from tests.stands import ARM, AXES, BARE, DOUBLE, EVEN, LADDER, LEVEL, LONE, MANY, PLACE, SPOTS, TRIPOD
from tests.stands import random_just_firm_stand, rods, slides
from tests.test_places import random_directions

WIDEST = 10 ** 120 - 1
AC, CD = rods("ac"), rods("cd")


def random_place(rng, stand, size):
    return (random_placing(rng, stand.frame, 2, size), random_directions(rng, stand, size))


def random_paces(rng, stand, size):
    return {tie: rng.randrange(-size, size + 1) for tie in stand.ties if rng.random() < 0.6}


def is_own_paper(stand, driven, value):
    """Whether a value of the right kinds shows which pins are moved, by its words."""
    place, found = value
    if oracles.rank(slow.tie_rows(stand, place)) != 2 * len(stand.frame.pins):
        return False
    paces = slow.paces_at(stand, place, found)
    some = slow.all_heads(stand)[0] if len(stand) <= 12 else None
    going = slow.moved_by(slow.leads(stand, some), some, driven) if some else moved(stand, driven)
    return all((paces[tie] != 0) == (tie in driven) for tie in paces) and all(found[pin] != (0, 0) for pin in going)


class DriversTest(Refusals):

    def test_examples(self):
        found = [moved(ARM, AC), moved(ARM, CD), still(ARM, CD), is_still_lot(ARM, CD, ("a", "b"))]
        self.assertEqual(found, [("c", "d"), ("d",), ("a", "b", "c"), True])
        self.assertEqual(
            velocities(ARM, PLACE, {("rod", "a", "c"): 3}), ({"a": (0, 0), "b": (0, 0), "c": (3, 4), "d": (3, 0)}, 4),
        )
        self.assertEqual(pair_pace(ARM, PLACE, {("rod", "a", "c"): 3}, "a", "d"), (3, 1))

    def test_pins_that_are_moved(self):
        rng = random.Random(1331)
        some = [random_just_firm_stand(rng, many) for many in (1, 2, 2, 3, 3, 3, 4, 4, 5, 5)] + [TRIPOD, EVEN, LADDER, ARM, LONE]
        for stand in some:
            heads = slow.all_heads(stand)[0]
            led = slow.leads(stand, heads)
            closed = slow.closed_lots(led)
            lots = list(subsets(stand.ties))
            for driven in [(), stand.ties] + rng.sample(lots, min(len(lots), 30)):
                going = slow.moved_by(led, heads, driven)
                self.assertEqual(moved(stand, driven), going)
                resting = tuple(pin for pin in stand.frame.pins if pin not in going)
                self.assertEqual(still(stand, driven), resting)
                right = [lot for lot in closed if not any(heads[tie] in lot for tie in driven)]
                self.assertEqual(max(right, key=len), resting)
                for lot in subsets(stand.frame.pins):
                    self.assertIs(is_still_lot(stand, driven, lot), lot in right)
                self.assertTrue(all(set(lot) <= set(resting) for lot in right))

    def test_all_lots_of_ties(self):
        rng = random.Random(1333)
        for many in (1, 2, 3, 3, 4):
            stand = random_just_firm_stand(rng, many)
            places = [stand_place(stand)] + [random_place(rng, stand, size) for size in (2, 3, 50)]
            firm = [place for place in places if slow.velocities_at(stand, place, {}) is not None]
            for driven in subsets(stand.ties):
                self.check_driven(rng, stand, driven, firm)

    def test_some_lots_of_ties_of_larger_stands(self):
        rng = random.Random(1334)
        for many in (5, 5, 6, 7, 8):
            stand = random_just_firm_stand(rng, many)
            for _ in range(6):
                driven = tuple(tie for tie in stand.ties if rng.random() < 0.2)
                self.check_driven(rng, stand, driven, [random_place(rng, stand, 9)])

    def check_driven(self, rng, stand, driven, places):
        going = moved(stand, driven)
        for place in places:
            found = slow.velocities_at(stand, place, {tie: rng.randrange(1, 9) * rng.choice((1, -1)) for tie in driven})
            if found is not None:
                self.assertTrue(all(found[pin] == (0, 0) for pin in found if pin not in going))
        value = driven_paper(stand, driven)
        (placing, directions), paced = value
        self.assertEqual((list(placing), list(directions)), (list(stand.frame.pins), list(stand.slides)))
        self.assertEqual(list(paced), list(stand.frame.pins))
        numbers = [number for spot in placing.values() for number in spot]
        numbers += [number for each in directions.values() for direction in each for number in direction]
        self.assertLess(max(abs(number) for number in numbers), 10 ** 100)
        self.assertLess(max(abs(number) for pair in paced.values() for number in pair), TOO_LONG)
        self.assertTrue(is_own_paper(stand, driven, value))
        self.assertIs(is_driven_paper(stand, driven, value), True)

    def test_velocities(self):
        rng = random.Random(1341)
        seen = set()
        for _ in range(150):
            stand = random_just_firm_stand(rng, rng.randrange(1, 6))
            size = rng.choice((1, 2, 3, 20, 10 ** 9))
            place, paces = random_place(rng, stand, size), random_paces(rng, stand, size)
            wanted = slow.velocities_at(stand, place, paces)
            one, other = [rng.choice(stand.frame.pins) for _ in range(2)]
            if wanted is None:
                self.refused(Refused, velocities, stand, place, paces, kept=("special",))
                self.refused(Refused, pair_pace, stand, place, paces, one, other, kept=("special",))
                seen.add("special")
                continue
            self.check_velocities(velocities(stand, place, paces), wanted)
            placing = place[0]
            found = pair_pace(stand, place, paces, one, other)
            self.assertIsInstance(found, tuple)
            pace = sum(
                (placing[one][at] - placing[other][at]) * (wanted[one][at] - wanted[other][at]) for at in range(2)
            )
            self.assertEqual(found, (pace.numerator, pace.denominator) if isinstance(pace, Fraction) else (pace, 1))
            if (one, other) in stand.frame:
                self.assertEqual(Fraction(*found), paces.get(("rod", one, other), 0))
            seen.add(found[1] == 1)
        self.assertEqual(len(seen), 3)

    def check_velocities(self, found, wanted):
        self.assertIsInstance(found, tuple)
        told_velocities, scale = found
        self.assertEqual(list(told_velocities), list(wanted))
        self.assertGreaterEqual(scale, 1)
        for pin, pair in told_velocities.items():
            self.assertIsInstance(pair, tuple)
            self.assertEqual(tuple(Fraction(number, scale) for number in pair), wanted[pin])
        common = scale
        for pair in told_velocities.values():
            common = gcd(common, *pair)
        self.assertEqual(common, 1)

    def test_no_paces(self):
        self.assertEqual(velocities(ARM, PLACE, {}), ({pin: (0, 0) for pin in "abcd"}, 1))
        self.assertEqual(velocities(ARM, PLACE, {tie: 0 for tie in ARM}), ({pin: (0, 0) for pin in "abcd"}, 1))
        self.assertEqual(pair_pace(ARM, PLACE, {}, "a", "d"), (0, 1))
        self.assertEqual(pair_pace(ARM, PLACE, {("rod", "a", "c"): 3}, "c", "c"), (0, 1))
        self.assertEqual(pair_pace(ARM, PLACE, {("rod", "a", "c"): 3}, "d", "a"), (3, 1))
        self.assertEqual(pair_pace(LONE, ({"a": (1, 2)}, {"a": AXES}), {("slide", "a", 1): 5}, "a", "a"), (0, 1))
        self.assertEqual(velocities(LONE, ({"a": (1, 2)}, {"a": AXES}), {("slide", "a", 1): 5}), ({"a": (-5, 0)}, 1))

    def test_longest_integers(self):
        rng = random.Random(1342)
        for many in (1, 4, 8):
            stand = random_just_firm_stand(rng, many)
            place = tuple(
                {pin: spot for pin, spot in each.items()} for each in random_place(rng, stand, WIDEST)
            )
            paces = {tie: rng.choice((WIDEST, -WIDEST)) for tie in stand.ties}
            self.check_velocities(velocities(stand, place, paces), slow.velocities_at(stand, place, paces))
        for number in (WIDEST, -WIDEST):
            wide = ({**PLACE[0], "d": (number, 3)}, PLACE[1])
            self.assertEqual(velocities(ARM, wide, {}), ({pin: (0, 0) for pin in "abcd"}, 1))
            turned = (PLACE[0], {"a": AXES, "b": ((number, 1), (0, 1))})
            self.assertEqual(velocities(ARM, turned, {("rod", "a", "c"): 3})[1], 4)
            found, scale = velocities(ARM, PLACE, {("slide", "a", 0): number})
            self.assertEqual(found["a"], (0, number * scale))
        for number in (WIDEST + 1, -WIDEST - 1, LONGEST, TOO_LONG):
            wide = ({**PLACE[0], "d": (4, number)}, PLACE[1])
            turned = (PLACE[0], {"a": AXES, "b": ((1, 0), (0, number))})
            for call, *more in ((velocities, {}), (pair_pace, {}, "a", "b")):
                self.refused(InvalidPlacing, call, ARM, wide, *more)
                self.refused(InvalidDirections, call, ARM, turned, *more)
                self.refused(InvalidPlacing, call, ARM, (wide[0], None), *more)
            self.refused(InvalidOperation, velocities, ARM, PLACE, {("rod", "a", "c"): number})
            self.refused(InvalidOperation, pair_pace, ARM, PLACE, {("rod", "a", "c"): number}, "zz", "zz")

    def test_wrong_paces(self):
        wrong = (
            None, (), [], "a", 1, {"a": 1}, {("a", "c"): 1}, {("rod", "a", "b"): 1}, {("rod", "c", "a"): 1}, {("rod", "a", "c"): True},
            {("rod", "a", "c"): None}, {("rod", "a", "c"): "1"}, {("rod", "a", "c"): (1,)}, {("slide", "a", True): 1},
            {("slide", "a", False): 1}, {("slide", "c", 0): 1}, {("slide", "a", 2): 1}, {("rod", "a", "c"): 1, None: 0},
            {("rod", "a", "c"): TOO_LONG}, [(("rod", "a", "c"), 1)],
        )
        for value in wrong:
            self.refused(InvalidOperation, velocities, ARM, PLACE, value)
            self.refused(InvalidOperation, pair_pace, ARM, PLACE, value, "zz", "a")
        self.refused(UnknownName, pair_pace, ARM, PLACE, {}, "zz", "yy", kept="zz")
        self.refused(UnknownName, pair_pace, ARM, PLACE, {}, "a", "yy", kept="yy")

    def test_pairs_that_can_be_put_in(self):
        # If the pace of a pair is not 0 where only one tie has another pace, they can be exchanged.
        rng = random.Random(1351)
        seen = set()
        for _ in range(25):
            stand = random_just_firm_stand(rng, rng.randrange(2, 6))
            place = stand_place(stand)
            tie = rng.choice(stand.ties)
            for one, other in stand.frame.missing:
                changes = pair_pace(stand, place, {tie: 1}, one, other)[0] != 0
                exchanged = stand.without_tie(tie).with_tie(("rod", one, other))
                self.assertIs(is_just_firm(exchanged), changes)
                seen.add(changes)
        self.assertEqual(seen, {True, False})

    def test_papers_of_others(self):
        rng = random.Random(1335)
        for stand, driven in ((ARM, AC), (ARM, AC + CD), (ARM, ()), (LADDER, rods("bd")), (EVEN, slides(("a", 0))), (LONE, LONE.ties)):
            count = 0
            while count < 8:
                place = random_place(rng, stand, 7)
                found = slow.velocities_at(stand, place, {tie: rng.randrange(1, 5) for tie in driven})
                if found is None or any(found[pin] == (0, 0) for pin in moved(stand, driven)):
                    continue
                count += 1
                scale = 1
                for pair in found.values():
                    for number in pair:
                        scale *= Fraction(number).denominator
                whole = {pin: tuple(int(number * scale * 3) for number in pair) for pin, pair in reversed(found.items())}
                value = (tuple(dict(reversed(each.items())) for each in place), whole)
                self.assertTrue(is_own_paper(stand, driven, value))
                self.assertIs(is_driven_paper(stand, driven, value), True)

    def test_papers_that_are_wrong_in_one_place(self):
        moving = {"a": (0, 0), "b": (0, 0), "c": (3, 4), "d": (3, 0)}
        self.assertIs(is_driven_paper(ARM, AC, (PLACE, moving)), True)
        self.assertIs(is_driven_paper(ARM, AC, (PLACE, {pin: (-x, -y) for pin, (x, y) in moving.items()})), True)
        self.assertIs(is_driven_paper(ARM, AC, (PLACE, {pin: (LONGEST // 9 * x, LONGEST // 9 * y) for pin, (x, y) in moving.items()})), True)
        wrong = [
            [PLACE, moving], (PLACE, moving, 1), (PLACE,), (moving, PLACE), (list(PLACE), moving), (PLACE + ({},), moving),
            ((PLACE[0], {"a": AXES}), moving), (({**PLACE[0], "a": (0,)}, PLACE[1]), moving), (PLACE, list(moving.items())), (None, moving),
            (PLACE, {pin: moving[pin] for pin in "abc"}), (PLACE, {**moving, "e": (0, 0)}), (PLACE, None), (PLACE, {}),
            (PLACE, {pin: (TOO_LONG * x, TOO_LONG * y) for pin, (x, y) in moving.items()}), (PLACE, {**moving, "a": (False, 0)}),
            (PLACE, {**moving, "b": (0, 0, 0)}), (PLACE, {**moving, "b": [0, 0]}), (PLACE, {**moving, "c": ("3", 4)}),
            (PLACE, {pin: (0, 0) for pin in "abcd"}), (PLACE, {**moving, "d": (3, 1)}), (PLACE, {**moving, "a": (1, 0)}),
            (({**PLACE[0], "d": (8, -3)}, PLACE[1]), {**moving, "d": (0, 0)}),
        ]
        for value in wrong + list(WRONG):
            self.assertIs(is_driven_paper(ARM, AC, value), False)
        self.assertIs(is_driven_paper(ARM, AC + CD, (PLACE, moving)), False)
        self.assertIs(is_driven_paper(ARM, CD, (PLACE, moving)), False)
        # A driven tie with a pace, but a moved pin that stands still: bc is driven, and a, c and d lie on a line.
        straight = ({**PLACE[0], "d": (0, 5)}, PLACE[1])
        self.assertIs(is_firm_at_place(ARM, straight), True)
        resting, scale = velocities(ARM, straight, {("rod", "b", "c"): 4})
        self.assertEqual((resting, scale), ({"a": (0, 0), "b": (0, 0), "c": (-1, 0), "d": (0, 0)}, 1))
        self.assertIs(is_driven_paper(ARM, rods("bc"), (straight, resting)), False)
        for x, y in ((2, 1), (-3, 0), (1, 0)):
            self.assertIs(is_driven_paper(ARM, rods("bc"), (straight, {**resting, "c": (x, 0)})), False)
            self.assertIs(is_driven_paper(ARM, rods("bc"), (straight, {**resting, "c": (x, 0), "d": (0, y)})), False)
        # A place that is not firm, where the paces are as told.
        special = ({**PLACE[0], "d": (8, -3)}, PLACE[1])
        self.assertIs(is_firm_at_place(ARM, special), False)
        sliding = {"a": (0, 0), "b": (0, 0), "c": (0, 0), "d": (3, 4)}
        self.assertEqual(slow.paces_at(ARM, special, sliding), {tie: 0 for tie in ARM})
        self.assertIs(is_driven_paper(ARM, (), (special, {pin: (0, 0) for pin in "abcd"})), False)
        self.assertIs(is_driven_paper(ARM, (), (PLACE, {pin: (0, 0) for pin in "abcd"})), True)

    def test_still_lots_that_are_wrong(self):
        for value in (("a",), ("b",), ("a", "b"), ()):
            self.assertIs(is_still_lot(ARM, AC, value), True)
        for value in (("c",), ("a", "b", "c"), ("b", "a"), ["a"], ("a", "a"), ("a", "e"), "a", None, True, (("a", "b"),)):
            self.assertIs(is_still_lot(ARM, AC, value), False)
        for value in WRONG:
            self.assertIs(is_still_lot(ARM, AC, value), value in ((), ("a",), ("a", "b")))

    def test_stands_that_are_not_just_firm(self):
        for stand, word in ((DOUBLE, "loose"), (BARE, "loose"), (MANY, "many"), (LADDER.with_tie(("slide", "d", 0)), "many")):
            place = stand_place(stand)
            for call, *more in (
                (moved, ()), (still, stand.ties), (is_still_lot, (), None), (velocities, place, {}), (driven_paper, ()),
                (pair_pace, place, {}, "a", "b"), (is_driven_paper, (), None),
            ):
                self.refused(Refused, call, stand, *more, kept=(word,))
            self.refused(InvalidOperation, moved, stand, ("x",))
            self.refused(InvalidPlacing, velocities, stand, (), {})
            self.refused(InvalidOperation, velocities, stand, place, None)
            self.refused(UnknownName, pair_pace, stand, place, {}, "a", "zz", kept="zz")
            # A place that is not firm is told behind this.
            flat = ({pin: (0, 0) for pin in stand.frame.pins}, place[1])
            self.refused(Refused, velocities, stand, flat, {}, kept=(word,))
        flat = ({pin: (0, 0) for pin in "abcd"}, PLACE[1])
        self.refused(Refused, velocities, ARM, flat, {}, kept=("special",))
        self.refused(Refused, pair_pace, ARM, flat, {}, "a", "a", kept=("special",))
        self.refused(UnknownName, pair_pace, ARM, flat, {}, "a", "e", kept="e")

    def test_wrong_arguments(self):
        stand = (ARM, InvalidStand, is_stand)
        driven = (AC, InvalidOperation, lambda value: value in ((), (("rod", "a", "c"),)))
        def begins_with_placing(value):
            return isinstance(value, tuple) and len(value) == 2 and value[0] == SQUARE
        place = (PLACE, InvalidPlacing, begins_with_placing)
        paces = ({}, InvalidOperation, lambda value: value == {})
        name = ("c", UnknownName, lambda value: value in ("a", "b", "c", "d"))
        for call in (moved, still, driven_paper):
            self.check_arguments(call, [stand, driven])
        for call in (is_still_lot, is_driven_paper):
            self.check_arguments(call, [stand, driven, (None, None, never)])
        self.check_arguments(velocities, [stand, place, paces])
        self.check_arguments(pair_pace, [stand, place, paces, name, name])
        ties = (("slide", "a", False),), (("slide", "a", True),), rods("cd ac"), rods("ac ac"), list(AC), AC[0], rods("ab"), rods("ca"), pairs("ac")
        for wrong in ties:
            for call, *more in ((moved,), (still,), (driven_paper,), (is_still_lot, ()), (is_driven_paper, None)):
                self.refused(InvalidOperation, call, ARM, wrong, *more)
        for wrong in ({"a": AXES}, {"a": AXES, "b": ((1, 0), (2, 0))}, {"a": AXES, "b": ((1, 0), (0, 0))}, {"a": AXES, "b": ((True, 0), (0, 1))}):
            self.refused(InvalidDirections, velocities, ARM, (PLACE[0], wrong), None)
            self.refused(InvalidDirections, pair_pace, ARM, (PLACE[0], wrong), None, None, None)

    def test_what_is_not_true(self):
        # A driven rod need not move both of its ends.
        self.assertEqual([moved(ARM, AC), moved(ARM, CD), moved(ARM, slides(("a", 1)))], [("c", "d"), ("d",), ("a", "c", "d")])
        # A pin can stand still in one firm place and move in another one.
        straight = ({**PLACE[0], "d": (0, 5)}, PLACE[1])
        bent = ({**PLACE[0], "d": (1, 5)}, PLACE[1])
        self.assertEqual(velocities(ARM, straight, {("rod", "b", "c"): 4})[0]["d"], (0, 0))
        self.assertNotEqual(velocities(ARM, bent, {("rod", "b", "c"): 4})[0]["d"], (0, 0))

    def test_arguments_stay_and_answers_repeat(self):
        place = tuple(dict(reversed(each.items())) for each in PLACE)
        paces = {("slide", "b", 0): 0, ("rod", "a", "c"): 3}
        before = told((place, paces))
        found = velocities(stand=ARM, place=place, paces=paces)
        shown = told(found)
        found[0].clear()
        self.assertEqual(told(velocities(ARM, PLACE, {("rod", "a", "c"): 3})), shown)
        self.assertEqual(pair_pace(stand=ARM, place=place, paces=paces, one="a", other="d"), (3, 1))
        value = driven_paper(stand=ARM, driven=AC)
        shown = told(value)
        self.assertIs(is_driven_paper(stand=ARM, driven=AC, value=value), True)
        self.assertEqual(told(value), shown)
        value[1].clear()
        value[0][0].clear()
        self.assertEqual(told(driven_paper(ARM, AC)), shown)
        self.assertEqual([moved(stand=ARM, driven=AC), still(stand=ARM, driven=AC)], [("c", "d"), ("a", "b")])
        self.assertIs(is_still_lot(stand=ARM, driven=AC, value=("a",)), True)
        self.assertEqual(told((place, paces)), before)

    def test_one_part(self):
        # If any tie of a stand of one part is driven, all of its pins move in some place.
        for tie, stand in itertools.product(EVEN.ties, (EVEN,)):
            self.assertEqual(moved(stand, (tie,)), stand.frame.pins)
            place, found = driven_paper(stand, (tie,))
            self.assertTrue(all(pair != (0, 0) for pair in found.values()))
        self.assertEqual(moved(TRIPOD, rods("bc")), ("c",))
        self.assertEqual(velocities(TRIPOD, (SPOTS, LEVEL), {("rod", "b", "c"): 1})[0]["b"], (0, 0))
        self.assertEqual(Stand(Frame(("a",)), {"a": 2}), LONE)
        self.assertEqual(moved(Stand(FOUR.without_rod("c", "d"), {"a": 2, "b": 1}), rods("ab")), ("b", "c", "d"))
