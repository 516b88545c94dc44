"""Wished moves: promises 14.1 to 14.3."""

import inspect
import itertools
import random

from lengthstell.drive.drivers import moved, still
from lengthstell.drive.wishes import (
    are_fewest_drivers,
    barred_move,
    drivers_of,
    exchanged,
    fewest_drivers,
    is_barred_move,
    moved_lots,
    movers,
)
from lengthstell.errors import InvalidOperation, InvalidStand, Refused, UnknownName
from lengthstell.frame.frames import Frame
from lengthstell.ground.parts import parts
from lengthstell.ground.stands import Stand
from tests import stands as slow
from tests.examples import FOUR, pairs, subsets
from tests.refusals import WRONG, Refusals, is_stand, never, told
from tests.stands import ARM, BARE, DEALT, DOUBLE, EVEN, LADDER, LONE, MANY, TRIPOD, random_just_firm_stand, rods, slides

# d leads to a and to b, e to b and to c: b alone is below both.
FORK = Stand(Frame(("a", "b", "c", "d", "e"), pairs("ad bd be ce")), {"a": 2, "b": 2, "c": 2})


def all_moved(stand):
    return list(moved_lots(stand))


class WishesTest(Refusals):

    def test_examples(self):
        found = [movers(ARM, "c"), all_moved(ARM)[:4], drivers_of(ARM, ("c", "d")), drivers_of(ARM, ("c",)), barred_move(ARM, ("c",))]
        self.assertEqual(found, [
            rods("ac bc") + slides(("a", 0), ("a", 1), ("b", 0), ("b", 1)),
            [(), ("d",), ("c", "d"), ("a", "c", "d")], rods("ac"), None, ("d", "c"),
        ])
        self.assertIn(fewest_drivers(ARM, ("d",)), [(tie,) for tie in ARM.ties])
        self.assertEqual(str(exchanged(ARM, ("rod", "b", "d"), "d")), "stand of 4 pins, 3 rods, 5 slides")
        self.assertIs(are_fewest_drivers(ARM, ("c", "d"), (("slide", "a", 0),)), True)
        error = self.refused(Refused, exchanged, ARM, ("rod", "c", "d"), "c")
        self.assertEqual(error.reason[0], "loose")

    def test_many_stands(self):
        rng = random.Random(1401)
        some = [random_just_firm_stand(rng, many) for many in (1, 2, 2) + (3,) * 15 + (4,) * 35 + (5,) * 5]
        for stand in some + [TRIPOD, EVEN, LADDER, ARM, LONE]:
            self.check_stand(rng, stand)

    def check_stand(self, rng, stand):
        every = slow.all_heads(stand)
        led = slow.leads(stand, every[0])
        by_lot = {}
        # Each moved lot comes of a lot of ties that moves it: these are all asked.
        for driven in subsets(stand.ties):
            by_lot.setdefault(slow.moved_by(led, every[0], driven), []).append(driven)
        self.assertEqual(all_moved(stand), [lot for lot in subsets(stand.frame.pins) if lot in by_lot])
        closed = slow.closed_lots(led)
        for pin in stand.frame.pins:
            wanted = tuple(tie for tie in stand.ties if pin in slow.moved_by(led, every[0], (tie,)))
            self.assertEqual(movers(stand, pin), wanted)
        for lot in subsets(stand.frame.pins):
            others = tuple(pin for pin in stand.frame.pins if pin not in lot)
            self.assertEqual(lot in by_lot, others in closed)
            self.check_drivers(stand, lot, by_lot, led, every)
            self.check_bars(stand, lot, by_lot, led, every)
            self.check_fewest(rng, stand, lot, by_lot)

    def check_drivers(self, stand, lot, by_lot, led, every):
        found = drivers_of(stand, lot)
        if lot not in by_lot:
            self.assertIsNone(found)
            return
        within = [part for part in slow.parts_of(led) if set(part) <= set(lot)]
        lowest = [part for part in within if not any(
            other != part and led[part[0]] & set(other) for other in within
        )]
        first = [min(tie for tie in stand.ties if every[0][tie] in part) for part in lowest]
        self.assertEqual(found, tuple(sorted(first)))
        self.assertIn(found, by_lot[lot])
        self.assertEqual(len(found), min(len(driven) for driven in by_lot[lot]))

    def check_bars(self, stand, lot, by_lot, led, every):
        right = set()
        for one, other in itertools.permutations(stand.frame.pins, 2):
            rod = ("rod", *sorted((one, other)))
            bears = any(heads.get(rod) == one for heads in every)
            if one not in lot and other in lot and (bears or one in led[other] and other in led[one]):
                right.add((one, other))
        found = barred_move(stand, lot)
        self.assertEqual(found is None, lot in by_lot)
        self.assertEqual(not right, lot in by_lot)
        self.assertTrue(found is None or found in right)
        for value in itertools.product(stand.frame.pins, repeat=2):
            self.assertIs(is_barred_move(stand, lot, value), value in right)
        for one, other in right:
            self.assertTrue(all(one in going for going in by_lot if other in going))

    def check_fewest(self, rng, stand, lot, by_lot):
        enough = [driven for going in by_lot if set(lot) <= set(going) for driven in by_lot[going]]
        least = min(len(driven) for driven in enough)
        right = [driven for driven in enough if len(driven) == least]
        self.assertIn(fewest_drivers(stand, lot), right)
        for driven in rng.sample(right, min(4, len(right))):
            self.assertIs(are_fewest_drivers(stand, lot, driven), True)
        others = [driven for driven in subsets(stand.ties) if len(driven) <= least + 1 and driven not in right]
        for driven in rng.sample(others, min(6, len(others))):
            self.assertIs(are_fewest_drivers(stand, lot, driven), False)

    def test_larger_stands(self):
        rng = random.Random(1402)
        for many in (5, 6, 7, 8, 8):
            stand = random_just_firm_stand(rng, many)
            found = all_moved(stand)
            self.assertEqual((found[0], found[-1]), ((), stand.frame.pins))
            self.assertEqual(found, sorted(found, key=lambda lot: (len(lot), lot)))
            for lot in found:
                driven = drivers_of(stand, lot)
                self.assertEqual(moved(stand, driven), lot)
                self.assertIsNone(barred_move(stand, lot))
                self.assertLessEqual(len(fewest_drivers(stand, lot)), len(driven))
            for lot in rng.sample(list(subsets(stand.frame.pins)), 20):
                driven = fewest_drivers(stand, lot)
                self.assertLessEqual(set(lot), set(moved(stand, driven)))
                self.assertIs(are_fewest_drivers(stand, lot, driven), True)
                self.assertEqual(drivers_of(stand, lot) is None, lot not in found)
                self.assertEqual(barred_move(stand, lot) is None, lot in found)

    def test_the_empty_lot_and_all_pins(self):
        self.assertEqual((drivers_of(ARM, ()), barred_move(ARM, ()), fewest_drivers(ARM, ())), ((), None, ()))
        self.assertEqual(drivers_of(ARM, ARM.frame.pins), slides(("a", 0), ("b", 0)))
        self.assertEqual(len(fewest_drivers(ARM, ARM.frame.pins)), 2)
        self.assertIs(are_fewest_drivers(ARM, (), ()), True)
        self.assertIs(are_fewest_drivers(ARM, (), rods("ac")), False)
        self.assertEqual((all_moved(LONE), drivers_of(LONE, ("a",))), ([(), ("a",)], slides(("a", 0))))

    def test_one_driver_for_two_wishes(self):
        # One slide of b moves d and e, but moves b, too; to move just d and e takes two ties.
        self.assertEqual(len(fewest_drivers(FORK, ("d", "e"))), 1)
        self.assertIs(are_fewest_drivers(FORK, ("d", "e"), slides(("b", 1))), True)
        self.assertIs(are_fewest_drivers(FORK, ("d", "e"), slides(("a", 1))), False)
        self.assertIs(are_fewest_drivers(FORK, ("d", "e"), rods("ad be")), False)
        self.assertEqual(drivers_of(FORK, ("d", "e")), rods("ad be"))
        self.assertEqual(len(fewest_drivers(FORK, ("a", "d", "e"))), 2)
        # Those that are not the lowest ones are let, too.
        self.assertIs(are_fewest_drivers(FORK, ("d",), rods("bd")), True)
        self.assertIs(are_fewest_drivers(FORK, ("d",), slides(("a", 0))), True)
        self.assertIs(are_fewest_drivers(FORK, ("d",), rods("be")), False)

    def test_exchanges(self):
        rng = random.Random(1421)
        seen = set()
        some = [random_just_firm_stand(rng, many) for many in (1, 2, 2, 3, 3, 3, 4, 4, 4, 5, 5)] + [ARM, LADDER, EVEN, TRIPOD, LONE]
        for stand in some:
            for tie in stand.ties:
                bare = stand.without_tie(tie)
                for new in [*itertools.combinations(stand.frame.pins, 2), *stand.frame.pins]:
                    seen.add(self.check_exchange(stand, tie, bare, new))
        self.assertEqual(seen, {"wrong", "loose", "done"})

    def check_exchange(self, stand, tie, bare, new):
        if new in stand.frame.rods or bare.slides.get(new, 0) == 2:
            self.refused(InvalidOperation, exchanged, stand, tie, new)
            return "wrong"
        wanted = bare.with_tie(("rod", *new) if isinstance(new, tuple) else ("slide", new, bare.slides.get(new, 0)))
        if not slow.is_just_firm_by_lots(wanted):
            reason = self.refused(Refused, exchanged, stand, tie, new).reason
            self.assertEqual((len(reason), reason[0]), (2, "loose"))
            self.assertTrue(slow.is_stand_parting(wanted, reason[1]))
            return "loose"
        found = exchanged(stand, tie, new)
        self.assertEqual(found, wanted)
        going = moved(stand, (tie,))
        self.assertTrue(any(pin in going for pin in (new if isinstance(new, tuple) else (new,))))
        kept = [part for part in parts(stand) if part[0] not in going]
        self.assertTrue(all(part in parts(found) for part in kept))
        return "done"

    def test_exchanges_that_cannot_be(self):
        # The rod of two pins that are not moved cannot be put in.
        self.assertEqual(still(ARM, rods("cd")), ("a", "b", "c"))
        self.assertEqual(self.refused(Refused, exchanged, ARM, ("rod", "c", "d"), ("a", "b")).reason[0], "loose")
        self.assertEqual(exchanged(ARM, ("rod", "c", "d"), ("a", "d")).frame.rods, pairs("ac ad bc bd"))
        # A slide for a slide of the same pin is the same stand, and it does not matter which one is told.
        for at in (0, 1):
            self.assertEqual(exchanged(ARM, ("slide", "a", at), "a"), ARM)
            self.assertEqual(exchanged(ARM, ("slide", "a", at), "c").slides, {"a": 1, "b": 2, "c": 1})
        self.assertEqual(exchanged(stand=ARM, tie=("rod", "b", "d"), new="d").slides, {"a": 2, "b": 2, "d": 1})
        wrong = (
            "b", "e", "", ("a", "c"), ("b", "a"), ("c", "d"), ("a", "a"), ("a", "e"), ["a", "b"], ("rod", "a", "b"), ("slide", "c", 0), None,
            ("a",), ("a", "b", "c"), True, 0, {"a": "b"},
        )
        for new in wrong:
            self.refused(InvalidOperation, exchanged, ARM, ("rod", "c", "d"), new)
            self.refused(InvalidOperation, exchanged, DOUBLE, ("rod", "a", "b"), new if new != "b" else "g")
        for tie in (("rod", "a", "b"), ("slide", "a", True), ("slide", "a", False), ("slide", "c", 0), ("a", "c"), "a", None):
            self.refused(InvalidOperation, exchanged, ARM, tie, None)
        self.refused(Refused, exchanged, MANY, ("rod", "a", "b"), "c", kept=("many",))
        self.refused(Refused, exchanged, DOUBLE, ("rod", "a", "b"), "c", kept=("loose",))

    def test_bars_that_are_wrong(self):
        self.assertIs(is_barred_move(ARM, ("c",), ("d", "c")), True)
        for value in (("c", "d"), ("a", "c"), ("b", "c"), ("d", "d"), ["d", "c"], ("d", "c", "c"), ("d",), ("e", "c"), ("d", "e"), "dc", None, True,
                      (("d",), "c"), (["d"], ["c"]), ("d", None), (1, 0)):
            self.assertIs(is_barred_move(ARM, ("c",), value), False)
        for value in WRONG:
            self.assertIs(is_barred_move(ARM, ("c",), value), False)
        # Two pins of one part without a rod between them bar each other.
        square = Stand(FOUR.without_rod("a", "c").without_rod("b", "d"), {pin: 1 for pin in "abcd"})
        self.assertEqual(parts(square), (("a", "b", "c", "d"),))
        self.assertIs(is_barred_move(square, ("a",), ("c", "a")), True)
        self.assertIs(is_barred_move(square, ("a", "c"), ("c", "a")), False)

    def test_drivers_that_are_wrong(self):
        for value in (slides(("a", 0)), rods("ac"), rods("bc"), slides(("b", 1))):
            self.assertIs(are_fewest_drivers(ARM, ("c", "d"), value), True)
        wrong = (
            (), rods("cd"), rods("ac bc"), list(rods("ac")), rods("ac")[0], rods("ab"), rods("ca"), pairs("ac"), (("slide", "a", False),),
            (("slide", "a", True),), None, True, "ac", rods("ac ac"),
        )
        for value in wrong + WRONG:
            self.assertIs(are_fewest_drivers(ARM, ("c", "d"), value), False)

    def test_stands_that_are_not_just_firm(self):
        for stand, word in ((DOUBLE, "loose"), (BARE, "loose"), (DEALT, "loose"), (MANY, "many")):
            for call, *more in (
                (movers, "a"), (all_moved,), (drivers_of, ()), (barred_move, ("a",)), (is_barred_move, (), None), (fewest_drivers, ("b",)),
                (are_fewest_drivers, (), ()),
            ):
                self.refused(Refused, call, stand, *more, kept=(word,))
            self.refused(UnknownName, movers, stand, "zz", kept="zz")
            for call, *more in ((drivers_of,), (barred_move,), (fewest_drivers,), (is_barred_move, None), (are_fewest_drivers, None)):
                self.refused(InvalidOperation, call, stand, ("b", "a"), *more)

    def test_the_generator(self):
        self.assertTrue(inspect.isgenerator(moved_lots(ARM)))
        self.assertTrue(inspect.isgenerator(moved_lots(stand=ARM)))
        for wrong in WRONG:
            if not is_stand(wrong):
                self.refused(InvalidStand, next, moved_lots(wrong))
        self.refused(Refused, next, moved_lots(MANY), kept=("many",))
        self.refused(Refused, next, moved_lots(DOUBLE), kept=("loose",))
        made = moved_lots(LADDER)
        self.assertEqual([next(made), next(made), next(made)], [(), ("d",), ("a", "b", "c", "d")])
        self.assertRaises(StopIteration, next, made)

    def test_wrong_arguments(self):
        stand = (ARM, InvalidStand, is_stand)
        lot = (("c", "d"), InvalidOperation, lambda value: value in ((), ("a",), ("a", "b")))
        tie = (("rod", "b", "d"), InvalidOperation, never)
        self.check_arguments(movers, [stand, ("c", UnknownName, lambda value: value == "a")])
        for call in (drivers_of, barred_move, fewest_drivers):
            self.check_arguments(call, [stand, lot])
        for call in (is_barred_move, are_fewest_drivers):
            self.check_arguments(call, [stand, lot, (None, None, never)])
        self.check_arguments(exchanged, [stand, tie, ("d", InvalidOperation, lambda value: value == ("a", "b"))])

    def test_arguments_stay_and_answers_repeat(self):
        before = told(ARM)
        self.assertEqual(movers(stand=ARM, pin="d"), movers(ARM, "d"))
        self.assertEqual(drivers_of(stand=ARM, lot=("c", "d")), rods("ac"))
        self.assertEqual(barred_move(stand=ARM, lot=("c",)), ("d", "c"))
        self.assertIs(is_barred_move(stand=ARM, lot=("c",), value=("d", "c")), True)
        self.assertEqual(fewest_drivers(stand=ARM, wished=("d",)), fewest_drivers(ARM, ("d",)))
        self.assertIs(are_fewest_drivers(stand=ARM, wished=("d",), value=rods("cd")), True)
        self.assertEqual(all_moved(ARM), all_moved(ARM))
        self.assertEqual(told(ARM), before)
