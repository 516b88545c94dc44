"""Heads, parts and closed lots: promises 12.1 to 12.7."""

import inspect
import itertools
import random

from lengthstell.count.blocks import blocks
from lengthstell.errors import InvalidOperation, InvalidStand, Refused, UnknownName
from lengthstell.frame.frames import Frame
from lengthstell.ground.parts import (
    are_heads,
    below,
    closed_lots,
    heads,
    is_closed,
    leading_to,
    led_to,
    may_bear,
    part_of,
    part_of_tie,
    parts,
    rest,
)
from lengthstell.ground.stands import Stand
from tests import stands as slow
from tests.examples import FOUR, subsets
from tests.refusals import WRONG, Refusals, is_stand, never, told
from tests.stands import ARM, BARE, DEALT, DOUBLE, EVEN, LADDER, LONE, MANY, TRIPOD, random_just_firm_stand, rods, slides

ARM_PARTS = (("a",), ("b",), ("c",), ("d",))


def all_closed(stand):
    return list(closed_lots(stand))


def are_own_heads(stand, found):
    """Whether a dict is heads, by 12.1."""
    if list(found) != list(stand.ties) or any(found[tie] not in tie[1:] for tie in found):
        return False
    return all(list(found.values()).count(pin) == 2 for pin in stand.frame.pins)


def turned(heads_told, ring):
    """Heads in which a ring is turned: the bearer of each of its rods is the next pin."""
    found = dict(heads_told)
    for at, pin in enumerate(ring):
        following = ring[(at + 1) % len(ring)]
        tie = ("rod", *sorted((pin, following)))
        assert found[tie] == pin
        found[tie] = following
    return found


def rings(stand, heads_told):
    """All rings of heads, each from its least pin on."""
    found = []
    def go(row):
        for tie, bearer in heads_told.items():
            if tie[0] == "rod" and bearer == row[-1]:
                end = tie[1] if tie[2] == bearer else tie[2]
                if end == row[0] and len(row) > 2:
                    found.append(tuple(row))
                elif end > row[0] and end not in row:
                    go(row + [end])
    for pin in stand.frame.pins:
        go([pin])
    return found


def reached_by_turning(stand, first):
    """All heads that come of heads by rings that are turned."""
    found, left = [first], [first]
    while left:
        here = left.pop()
        for ring in rings(stand, here):
            other = turned(here, ring)
            if other not in found:
                found.append(other)
                left.append(other)
    return found


class PartsTest(Refusals):

    def test_examples(self):
        found = [
            LADDER.ties[5:], parts(LADDER), part_of(LADDER, "d"), part_of_tie(LADDER, ("rod", "b", "d")),
            part_of_tie(LADDER, ("rod", "a", "b")),
        ]
        self.assertEqual(found, [slides(("a", 0), ("b", 0), ("c", 0)), (("a", "b", "c"), ("d",)), 1, 1, 0])
        found = [are_heads(LADDER, dict(zip(LADDER.ties, pins))) for pins in ("acdbdabc", "badcdabc", "aadbdabc")]
        self.assertEqual(found, [True, True, False])
        found = [
            led_to(LADDER, ("d",)), leading_to(LADDER, ("c",)), is_closed(LADDER, ("a", "b")), all_closed(LADDER),
            may_bear(LADDER)["d"],
        ]
        whole = ("a", "b", "c", "d")
        self.assertEqual(found, [whole, whole, False, [(), ("a", "b", "c"), whole], rods("ad bd")])
        lower, upper = below(LADDER, ("a", "b", "c")), rest(LADDER, ("a", "b", "c"))
        self.assertEqual([str(lower), str(upper)], ["stand of 3 pins, 3 rods, 3 slides", "stand of 1 pins, 0 rods, 2 slides"])
        self.assertEqual(upper, Stand(Frame(("d",)), {"d": 2}))
        self.assertEqual(lower, Stand(Frame.full(("a", "b", "c")), {"a": 1, "b": 1, "c": 1}))
        self.refused(Refused, below, LADDER, ("a", "c"), kept=("open", ("a", "b")))

    def test_many_stands(self):
        rng = random.Random(1201)
        some = [random_just_firm_stand(rng, many) for many in (1, 1, 2, 2, 2) + (3,) * 8 + (4,) * 20 + (5,) * 25]
        for stand in some + [TRIPOD, EVEN, LADDER, ARM, LONE]:
            self.check_stand(stand)

    def test_larger_stands(self):
        rng = random.Random(1202)
        for many in (6,) * 6 + (7, 7, 8, 8):
            stand = random_just_firm_stand(rng, many)
            found = heads(stand)
            self.assertTrue(are_own_heads(stand, found))
            self.check_leads(stand, found, slow.leads(stand, found))
            self.check_lots(stand, slow.leads(stand, found))

    def check_stand(self, stand):
        every = slow.all_heads(stand)
        found = heads(stand)
        self.assertTrue(are_own_heads(stand, found))
        self.assertIn(found, every)
        self.assertEqual([are_heads(stand, other) for other in every], [True] * len(every))
        led = slow.leads(stand, found)
        self.assertTrue(all(slow.leads(stand, other) == led for other in every))
        self.check_leads(stand, found, led)
        wanted = {
            pin: tuple(tie for tie in stand.ties if any(other[tie] == pin for other in every))
            for pin in stand.frame.pins
        }
        self.assertEqual(list(may_bear(stand).items()), list(wanted.items()))
        self.check_lots(stand, led)
        # Any heads come of any others by rings that are turned.
        turned_heads = reached_by_turning(stand, found)
        self.assertEqual(len(turned_heads), len(every))
        self.assertTrue(all(other in every and are_heads(stand, other) for other in turned_heads))

    def check_leads(self, stand, found, led):
        order = slow.parts_in_order(led)
        self.assertEqual(parts(stand), order)
        for pin in stand.frame.pins:
            self.assertIn(pin, order[part_of(stand, pin)])
        for tie in stand.ties:
            self.assertIn(found[tie], order[part_of_tie(stand, tie)])
        # No two parts lead to each other, and each one stands behind those to which it leads.
        for at, part in enumerate(order):
            self.assertTrue(all(not led[pin] & set(later) for pin in part for later in order[at + 1:]))
        for tie in stand.ties:
            if tie[0] == "rod" and part_of(stand, tie[1]) != part_of(stand, tie[2]):
                self.assertEqual(found[tie], max(tie[1:], key=lambda pin: part_of(stand, pin)))
        for pin in stand.held:
            self.assertEqual(led[pin], {pin})
            self.assertIn((pin,), order)

    def check_lots(self, stand, led):
        closed = slow.closed_lots(led)
        self.assertEqual(all_closed(stand), closed)
        whole = set(parts(stand))
        for lot in subsets(stand.frame.pins):
            self.assertEqual(led_to(stand, lot), tuple(sorted(set().union(*[led[pin] for pin in lot]))))
            self.assertEqual(leading_to(stand, lot), tuple(pin for pin in stand.frame.pins if led[pin] & set(lot)))
            self.assertIs(is_closed(stand, lot), lot in closed)
            if lot in closed:
                self.check_halves(stand, lot, whole)
            else:
                first = min((one, other) for one in lot for other in led[one] - set(lot))
                self.refused(Refused, below, stand, lot, kept=("open", first))
                self.refused(Refused, rest, stand, lot, kept=("open", first))

    def check_halves(self, stand, lot, whole):
        others = tuple(pin for pin in stand.frame.pins if pin not in lot)
        found = set()
        if lot == ():
            self.refused(Refused, below, stand, lot, kept=("empty",))
        else:
            lower = below(stand, lot)
            self.assertEqual(lower.frame, stand.frame.part(lot))
            self.assertEqual(lower.slides, {pin: many for pin, many in stand.slides.items() if pin in lot})
            self.assertEqual(slow.least_sum(lower), len(lower))
            found.update(parts(lower))
        if others == ():
            self.refused(Refused, rest, stand, lot, kept=("empty",))
        else:
            upper = rest(stand, lot)
            self.assertEqual(upper.frame, stand.frame.part(others))
            for pin in others:
                many = stand.slides.get(pin, 0) + len(set(stand.frame.neighbours(pin)) & set(lot))
                self.assertEqual(upper.slides.get(pin, 0), many)
            self.assertEqual((slow.least_sum(upper), len(upper)), (2 * len(others), 2 * len(others)))
            found.update(parts(upper))
        self.assertEqual(found, whole)
        self.assertTrue(all(set(part) <= set(lot) or set(part) <= set(others) for part in whole))

    def test_a_stand_part_by_part(self):
        rng = random.Random(1205)
        for _ in range(12):
            stand = random_just_firm_stand(rng, rng.randrange(2, 7))
            left, order = stand, []
            while True:
                part = parts(left)[0]
                order.append(part)
                lower = below(left, part)
                # One part by itself: each of its pins leads to each other one.
                self.assertEqual(parts(lower), (part,))
                self.assertTrue(all(led_to(lower, (pin,)) == part for pin in part))
                if part == left.frame.pins:
                    break
                left = rest(left, part)
            self.assertEqual(tuple(order), parts(stand))

    def test_order_of_parts(self):
        # c leads to b, d to a: the parts that lead to none that is left come in Python's order.
        stand = Stand(Frame(("a", "b", "c", "d"), (("a", "d"), ("b", "c"), ("c", "d"))), {"a": 2, "b": 2, "c": 1})
        self.assertEqual(parts(stand), (("a",), ("b",), ("c",), ("d",)))
        names = {"a": "z", "b": "c", "c": "a", "d": "b"}
        other = Stand(stand.frame.renamed(names), {"z": 2, "c": 2, "a": 1})
        self.assertEqual(parts(other), (("c",), ("a",), ("z",), ("b",)))
        self.assertEqual([part_of(other, pin) for pin in "abcz"], [1, 3, 0, 2])
        self.assertEqual(parts(ARM), ARM_PARTS)

    def test_values_that_are_wrong_in_one_place(self):
        right = heads(LADDER)
        self.assertIs(are_heads(LADDER, dict(reversed(right.items()))), True)
        wrong = [
            list(right.items()), tuple(right), {}, None, {**right, ("rod", "c", "d"): "c"}, {**right, ("slide", "d", 0): "d"},
            {**right, ("rod", "a", "b"): "c"}, {**right, ("slide", "a", 0): "b"}, {**right, ("rod", "a", "b"): None},
            {**right, ("rod", "a", "b"): ("a",)}, {**right, ("rod", "a", "b"): 0}, {**right, ("rod", "a", "b"): TRIPOD},
            {tie: pin for tie, pin in right.items() if tie != ("rod", "a", "b")}, {tie[1:]: pin for tie, pin in right.items()},
            {**right, "a": "a"}, {**right, 1: "a"},
        ]
        for tie in LADDER.ties[:5]:
            end = tie[1] if right[tie] == tie[2] else tie[2]
            wrong.append({**right, tie: end})
        for tie in LADDER.ties[5:]:
            false = {other: pin for other, pin in right.items() if other != tie}
            wrong.append({**false, ("slide", tie[1], False): tie[1]})
            wrong.append({**false, ("slide", tie[1], 1): tie[1]})
        for value in wrong + list(WRONG):
            self.assertIs(are_heads(LADDER, value), False)
        right = heads(TRIPOD)
        self.assertIs(are_heads(TRIPOD, right), True)
        for at, number in ((0, False), (1, True)):
            false = {tie: pin for tie, pin in right.items() if tie != ("slide", "a", at)}
            self.assertIs(are_heads(TRIPOD, {**false, ("slide", "a", number): "a"}), False)
        # Each pin bears two ties, but a slide is borne by another pin.
        crossed = {**right, ("slide", "a", 0): "b", ("slide", "b", 0): "a"}
        self.assertEqual(sorted(crossed.values()), sorted(right.values()))
        self.assertIs(are_heads(TRIPOD, crossed), False)
        for value in (["a", "b", "c"], ("a", "c", "b"), ("a", "b"), ("a", "b", "c", "e"), None, "abc", True, (("a", "b", "c"),)):
            self.assertIs(is_closed(LADDER, value), False)
        for value in WRONG:
            self.assertIs(is_closed(LADDER, value), value == ())
        self.assertIs(is_closed(ARM, ("a",)), True)

    def test_stands_that_are_not_just_firm(self):
        firm, loose = MANY, (DOUBLE, DEALT, BARE, TRIPOD.without_tie(("slide", "b", 0)), Stand(Frame(("a",)), {"a": 1}))
        calls = [
            (heads,), (are_heads, {}), (may_bear,), (parts,), (part_of, "a"), (part_of_tie, None), (led_to, ()), (leading_to, ("a",)),
            (is_closed, ()), (all_closed,), (below, ("a",)), (rest, ()), (are_heads, 1), (is_closed, None),
        ]
        for stand in loose + (firm,):
            word = "many" if stand == firm else "loose"
            for call, *args in calls:
                if call == part_of_tie:
                    args = [tie for tie in stand.ties[:1]]
                if call != part_of_tie or args:
                    self.refused(Refused, call, stand, *args, kept=(word,))
            # What is wrong with the arguments is told ahead of this.
            self.refused(UnknownName, part_of, stand, "zz", kept="zz")
            self.refused(InvalidOperation, part_of_tie, stand, ("rod", "y", "z"))
            for call in (led_to, leading_to, below, rest):
                self.refused(InvalidOperation, call, stand, ("b", "a"))
        self.refused(Refused, below, LONE, (), kept=("empty",))
        self.refused(Refused, rest, LONE, ("a",), kept=("empty",))
        self.assertEqual((below(LONE, ("a",)), rest(LONE, ())), (LONE, LONE))

    def test_the_generator(self):
        self.assertTrue(inspect.isgenerator(closed_lots(LADDER)))
        self.assertTrue(inspect.isgenerator(closed_lots(stand=LADDER)))
        for wrong in WRONG:
            if not is_stand(wrong):
                made = closed_lots(wrong)
                self.refused(InvalidStand, next, made)
        self.refused(Refused, next, closed_lots(MANY), kept=("many",))
        self.refused(Refused, next, closed_lots(DOUBLE), kept=("loose",))
        made = closed_lots(ARM)
        self.assertEqual([next(made), next(made), next(made), next(made)], [(), ("a",), ("b",), ("a", "b")])

    def test_wrong_arguments(self):
        stand = (LADDER, InvalidStand, is_stand)
        lot = (("a", "b", "c"), InvalidOperation, lambda value: value in ((), ("a",), ("a", "b")))
        tie = (("rod", "a", "b"), InvalidOperation, lambda value: value == ("rod", "a", "b"))
        for call in (heads, may_bear, parts):
            self.check_arguments(call, [stand])
        for call in (are_heads, is_closed):
            self.check_arguments(call, [stand, (None, None, never)])
        self.check_arguments(part_of, [stand, ("a", UnknownName, lambda value: value == "a")])
        self.check_arguments(part_of_tie, [stand, tie])
        for call in (led_to, leading_to, below, rest):
            self.check_arguments(call, [stand, lot])
        for wrong in (("slide", "a", False), ("slide", "a", 1), ("rod", "c", "d"), ["rod", "a", "b"], ("a", "b")):
            self.refused(InvalidOperation, part_of_tie, LADDER, wrong)

    def test_what_is_not_true(self):
        # The pins of the ladder make one block, but two parts; and its parts have more heads than one.
        self.assertEqual((blocks(LADDER.frame), len(parts(LADDER))), ((("a", "b", "c", "d"),), 2))
        self.assertGreater(len(slow.all_heads(LADDER)), 1)
        self.assertEqual(len(set(parts(LADDER))), 2)
        # Each pin can bear two ties, but the stand is not firm.
        self.assertEqual((DEALT.frame, DEALT.slides, len(DEALT)), (FOUR, {"a": 1, "b": 1}, 8))
        self.assertTrue(any(list(found.values()).count("a") == 2 for found in slow.all_heads(DEALT)))
        self.refused(Refused, heads, DEALT, kept=("loose",))

    def test_arguments_stay_and_answers_repeat(self):
        value = dict(reversed(heads(LADDER).items()))
        before = told((LADDER, value))
        for call in (heads, may_bear):
            found = call(stand=LADDER)
            shown = told(found)
            self.assertEqual(list(found), sorted(found))
            found.clear()
            self.assertEqual(told(call(LADDER)), shown)
        self.assertIs(are_heads(stand=LADDER, value=value), True)
        self.assertEqual(part_of(stand=LADDER, pin="d"), 1)
        self.assertEqual(part_of_tie(stand=LADDER, tie=("rod", "a", "d")), 1)
        for call in (led_to, leading_to, below, rest):
            self.assertEqual(call(stand=LADDER, lot=("a", "b", "c")), call(LADDER, ("a", "b", "c")))
        self.assertIs(is_closed(stand=LADDER, value=()), True)
        self.assertEqual(told((LADDER, value)), before)

    def test_pins_that_bear_all_ties_in_turn(self):
        # A stand of one part: each rod is borne by either end in some heads.
        for stand in (EVEN, Stand(FOUR.without_rod("a", "b"), {"a": 1, "b": 1, "c": 1})):
            if len(parts(stand)) == 1:
                bearing = may_bear(stand)
                for one, other in itertools.combinations(stand.frame.pins, 2):
                    if (one, other) in stand.frame:
                        self.assertIn(("rod", one, other), bearing[one])
                        self.assertIn(("rod", one, other), bearing[other])
        self.assertEqual(len(parts(EVEN)), 1)
