"""Places of stands: promises 11.2 and 11.3, and the places of 11.4."""

import random

from lengthstell.base import rows as row_module
from lengthstell.errors import InvalidDirections, InvalidPlacing, InvalidStand
from lengthstell.frame.frames import Frame
from lengthstell.ground.places import is_firm_at_place, is_place, rank_at_place, stand_place, stand_rows
from lengthstell.ground.stands import Stand, is_firm_stand, stand_rank
from tests import oracles
from tests import stands as slow
from tests.examples import EIGHT, FOUR, LONG, LONGEST, SINGLE, TOO_LONG, random_placing
from tests.refusals import WRONG, Refusals, is_stand, never, told
from tests.stands import ARM, AXES, BARE, DOUBLE, EVEN, LADDER, LEVEL, LONE, MANY, PLACE, SPOTS, TRIPOD, UPRIGHT
from tests.stands import random_just_firm_stand, random_stand

RIGHT = (SPOTS, LEVEL)


def random_directions(rng, stand, size):
    found = {}
    for pin, many in stand.slides.items():
        first, second = [(rng.randrange(-size, size + 1), rng.randrange(-size, size + 1)) for _ in range(2)]
        while first == (0, 0) or (many == 2 and first[0] * second[1] == first[1] * second[0]):
            first, second = [(rng.randrange(-size, size + 1), rng.randrange(-size, size + 1)) for _ in range(2)]
        found[pin] = (first, second)[:many]
    return found


class PlacesTest(Refusals):

    def test_examples(self):
        found = [stand_rows(TRIPOD, RIGHT)[2:], rank_at_place(TRIPOD, RIGHT), rank_at_place(TRIPOD, (SPOTS, UPRIGHT))]
        self.assertEqual(found, [
            ((0, 0, 2, -1, -2, 1), (0, 1, 0, 0, 0, 0), (-1, 0, 0, 0, 0, 0), (0, 0, 0, 1, 0, 0)), 6, 5,
        ])
        self.assertEqual(rank_at_place(EVEN, (SPOTS, {pin: ((1, 0),) for pin in "abc"})), 5)
        parallel = {"a": ((1, 0), (2, 0)), "b": ((1, 0),)}
        self.refused(InvalidDirections, stand_rows, TRIPOD, (SPOTS, parallel))
        self.assertIs(is_place(TRIPOD, (SPOTS, parallel)), False)
        self.assertIs(is_place(ARM, PLACE), True)

    def test_many_places(self):
        rng = random.Random(1131)
        seen = set()
        for _ in range(250):
            stand = random_stand(rng, rng.randrange(1, 9))
            if rng.random() < 0.4:
                stand = random_just_firm_stand(rng, rng.randrange(1, 6))
            size = rng.choice((1, 2, 9, 10 ** 30))
            place = (random_placing(rng, stand.frame, 2, size), random_directions(rng, stand, size))
            rows = slow.tie_rows(stand, place)
            self.assertIs(is_place(stand, place), True)
            self.assertEqual(stand_rows(stand, place), rows)
            found = oracles.rank(rows)
            self.assertEqual(rank_at_place(stand, place), found)
            self.assertIs(is_firm_at_place(stand, place), found == 2 * len(stand.frame.pins))
            self.assertLessEqual(found, stand_rank(stand))
            seen.add((is_firm_stand(stand), found == stand_rank(stand)))
        self.assertEqual(len(seen), 4)

    def test_rows_are_tuples_of_integers(self):
        for stand, place in ((TRIPOD, RIGHT), (ARM, PLACE)):
            rows = stand_rows(stand, place)
            self.assertIsInstance(rows, tuple)
            self.assertTrue(all(isinstance(row, tuple) and len(row) == 2 * len(stand.frame.pins) for row in rows))
            self.assertEqual(row_module.rank(rows), rank_at_place(stand, place))
        self.assertEqual(stand_rows(BARE, ({"a": (0, 0), "b": (0, 0)}, {})), ())
        self.assertEqual(rank_at_place(BARE, ({"a": (1, 0), "b": (0, 0)}, {})), 0)
        self.assertEqual(stand_rows(LONE, ({"a": (7, 7)}, {"a": AXES})), ((0, 1), (-1, 0)))
        self.assertIs(is_firm_at_place(LONE, ({"a": (7, 7)}, {"a": AXES})), True)

    def test_places_with_the_stand_rank(self):
        rng = random.Random(1141)
        some = [random_stand(rng, many) for many in (1, 2, 3, 4, 5, 6) * 8 + (7, 7, 7, 8)]
        some += [random_just_firm_stand(rng, rng.randrange(1, 7)) for _ in range(20)]
        some += [TRIPOD, EVEN, DOUBLE, LADDER, ARM, BARE, LONE, MANY, Stand.held_at(EIGHT, EIGHT.pins), Stand(SINGLE, {})]
        for stand in some:
            place = stand_place(stand)
            self.assertIs(is_place(stand, place), True)
            placing, directions = place
            self.assertEqual((list(placing), list(directions)), (list(stand.frame.pins), list(stand.slides)))
            numbers = [number for spot in placing.values() for number in spot]
            numbers += [number for each in directions.values() for direction in each for number in direction]
            self.assertLess(max(abs(number) for number in numbers), 10 ** 100)
            self.assertEqual(oracles.rank(slow.tie_rows(stand, place)), slow.least_sum(stand) if len(stand) < 40 else 16)
            self.assertEqual(told(stand_place(stand)), told(place))

    def test_values_that_are_wrong_in_one_place(self):
        good = [
            (SPOTS, UPRIGHT), (dict(reversed(SPOTS.items())), dict(reversed(LEVEL.items()))),
            ({**SPOTS, "a": (LONGEST, -LONGEST)}, LEVEL), (SPOTS, {**LEVEL, "b": ((LONGEST, 0),)}), ({pin: (0, 0) for pin in "abc"}, LEVEL),
            (SPOTS, {**LEVEL, "a": ((1, 0), (-1, 1))}), (SPOTS, {"a": ((0, -1), (1, 0)), "b": ((0, -LONG),)}),
        ]
        for value in good:
            self.assertIs(is_place(TRIPOD, value), True)
            stand_rows(TRIPOD, value)
        no_placing = [
            list(RIGHT), RIGHT + (1,), RIGHT[:1], (LEVEL, SPOTS), (None, LEVEL), ({**SPOTS, "d": (0, 0)}, LEVEL), ((), LEVEL),
            ({"a": (0, 0), "b": (1, 1)}, LEVEL), ({pin: (0,) for pin in "abc"}, LEVEL), ({**SPOTS, "a": (0, 0, 0)}, LEVEL),
            ({**SPOTS, "a": [0, 0]}, LEVEL), ({**SPOTS, "a": (True, 0)}, LEVEL), ({**SPOTS, "a": (0, TOO_LONG)}, LEVEL),
            (list(SPOTS.items()), LEVEL), ({**SPOTS, "a": (0, "1")}, LEVEL), ({**SPOTS, "a": (0, None)}, None),
        ]
        no_directions = [
            None, {}, [], (), 1, "a", {"a": AXES}, {"b": ((1, 0),)}, {**LEVEL, "c": ((1, 0),)}, {"a": AXES, "c": ((1, 0),)},
            {**LEVEL, "b": ((1, 0), (0, 1))}, {**LEVEL, "a": ((1, 0),)}, {**LEVEL, "a": AXES + ((1, 1),)}, {**LEVEL, "b": ()},
            {**LEVEL, "b": ((0, 0),)}, {**LEVEL, "a": ((0, 0), (1, 0))}, {**LEVEL, "a": ((1, 0), (0, 0))}, {**LEVEL, "b": (1, 0)},
            {**LEVEL, "b": [(1, 0)]}, {**LEVEL, "b": ([1, 0],)}, {**LEVEL, "b": ((1,),)}, {**LEVEL, "b": ((1, 0, 0),)},
            {**LEVEL, "b": ((True, 0),)}, {**LEVEL, "b": ((1, False),)}, {**LEVEL, "b": ((TOO_LONG, 0),)}, {**LEVEL, "b": (None,)},
            {**LEVEL, "a": ((1, 2), (2, 4))}, {**LEVEL, "a": ((1, 2), (-1, -2))}, {**LEVEL, "a": ((0, 3), (0, -5))}, list(LEVEL.items()),
            {**LEVEL, "b": (("1", "0"),)},
        ]
        for value in no_placing:
            self.assertIs(is_place(TRIPOD, value), False)
            self.refused(InvalidPlacing, stand_rows, TRIPOD, value)
            self.refused(InvalidPlacing, rank_at_place, TRIPOD, value)
            self.refused(InvalidPlacing, is_firm_at_place, TRIPOD, value)
        for value in no_directions:
            self.assertIs(is_place(TRIPOD, (SPOTS, value)), False)
            self.refused(InvalidDirections, stand_rows, TRIPOD, (SPOTS, value))
            self.refused(InvalidDirections, rank_at_place, TRIPOD, (SPOTS, value))
            self.refused(InvalidDirections, is_firm_at_place, TRIPOD, (SPOTS, value))
            # What is wrong with the placing is told ahead of this.
            self.refused(InvalidPlacing, stand_rows, TRIPOD, ({**SPOTS, "a": (0,)}, value))
        for value in WRONG:
            self.assertIs(is_place(TRIPOD, value), False)
        self.assertIs(is_place(BARE, ({"a": (0, 0), "b": (0, 0)}, {})), True)
        self.assertIs(is_place(BARE, ({"a": (0, 0), "b": (0, 0)}, ())), False)

    def test_wrong_arguments(self):
        stand = (TRIPOD, InvalidStand, is_stand)
        self.check_arguments(is_place, [stand, (None, None, never)])
        self.check_arguments(stand_place, [stand])
        for call in (stand_rows, rank_at_place, is_firm_at_place):
            self.check_arguments(call, [stand, (RIGHT, InvalidPlacing, never)])
        # The pins of one stand, the slides of another one.
        self.refused(InvalidDirections, stand_rows, EVEN, RIGHT)
        self.refused(InvalidPlacing, stand_rows, Stand(FOUR, {"a": 2, "b": 1}), RIGHT)
        self.assertIs(is_place(Stand(Frame(("a", "b", "c")), {"a": 2, "b": 1}), RIGHT), True)

    def test_arguments_stay(self):
        place = (dict(reversed(SPOTS.items())), dict(reversed(LEVEL.items())))
        before = told(place)
        self.assertEqual(stand_rows(stand=TRIPOD, place=place), stand_rows(TRIPOD, RIGHT))
        self.assertEqual(rank_at_place(stand=TRIPOD, place=place), 6)
        self.assertIs(is_firm_at_place(stand=TRIPOD, place=place), True)
        self.assertIs(is_place(stand=TRIPOD, value=place), True)
        self.assertEqual(told(place), before)
        found = stand_place(stand=TRIPOD)
        shown = told(found)
        found[0].clear()
        found[1].clear()
        self.assertEqual(told(stand_place(TRIPOD)), shown)
