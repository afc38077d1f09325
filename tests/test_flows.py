"""Points 13 and 14, and what point 4 says of gates and wheels."""

import itertools
import unittest

from asking import LAST_TURN, Asking
from plain import height, moved, plain_can_turn, plain_passing, small_mills, stands_right
from tidepond.flows import can_turn, passing, shifted

SEA = -1
DEEP = -1000


def flat(base):
    return (base, ())


def swapped(mill):
    sea, ponds, gates, wheels = mill
    return (sea, ponds, tuple((other, one, sill, rate) for one, other, sill, rate in gates), wheels)


def to_sea(pond, base, sill, rate):
    return (flat(base), (pond,), ((0, SEA, sill, rate),), ())


def to_pond(giving, taking, sill, rate):
    return (flat(0), (giving, taking), ((0, 1, sill, rate),), ())


class Passing(Asking):
    def passes(self, told, mill, contents, turn=0):
        # Which of its sides a gate names first does not count.
        self.tells(told, passing, mill, contents, turn, 0)
        self.tells(told, passing, swapped(mill), contents, turn, 0)
        self.assertEqual(plain_passing(mill, contents, turn, 0), told)


class TestNothingPasses(Passing):
    def test_a_pond_as_high_as_the_sea(self):
        self.passes(None, to_sea(("a", 10, 0, 10), 3, DEEP, 1000), (30,))
        self.passes((0, SEA, 1), to_sea(("a", 10, 0, 10), 3, DEEP, 1000), (31,))
        self.passes((SEA, 0, 1), to_sea(("a", 10, 0, 10), 3, DEEP, 1000), (29,))

    def test_two_ponds_as_high(self):
        ponds = (("a", 4, 0, 10), ("b", 6, -1, 10))
        self.passes(None, to_pond(*ponds, DEEP, 1000), (6, 15))
        self.passes(None, to_pond(*ponds, DEEP, 1000), (0, 6))
        self.passes(None, to_pond(*ponds, DEEP, 1000), (40, 66))

    def test_the_higher_pond_not_above_the_sill(self):
        pond = ("a", 10, 0, 10)
        self.passes(None, to_sea(pond, -20, 4, 1000), (39,))
        self.passes(None, to_sea(pond, -20, 4, 1000), (40,))
        self.passes((0, SEA, 1), to_sea(pond, -20, 4, 1000), (41,))

    def test_an_empty_pond_at_its_sill_or_below_it(self):
        for sill in (0, 1, 1000):
            self.passes(None, to_sea(("a", 10, 0, 10), -20, sill, 1000), (0,))

    def test_the_higher_sea_not_above_the_sill(self):
        for sill in (6, 7, 1000):
            self.passes(None, to_sea(("a", 10, 0, 10), 6, sill, 1000), (5,))
        self.passes((SEA, 0, 55), to_sea(("a", 10, 0, 10), 6, 5, 1000), (5,))

    def test_the_sill_is_not_asked_of_the_lower_side(self):
        self.passes((0, SEA, 10), to_sea(("a", 10, 0, 10), -500, 4, 1000), (50,))
        self.passes((SEA, 0, 60), to_sea(("a", 10, 0, 10), 6, 5, 1000), (0,))

    def test_the_taking_pond_is_full(self):
        self.passes(None, to_sea(("a", 10, 0, 10), 20, DEEP, 1000), (100,))
        self.passes(None, to_pond(("a", 10, 0, 10), ("b", 3, 0, 4), DEEP, 1000), (90, 12))
        self.passes((0, 1, 1), to_pond(("a", 10, 0, 10), ("b", 3, 0, 4), DEEP, 1000), (90, 11))

    def test_the_giving_pond_is_empty(self):
        # It stands high, above the sill and the taking side, and has nothing.
        self.passes(None, to_sea(("a", 10, 0, 10), -20, DEEP, 1000), (0,))
        self.passes(None, to_pond(("a", 10, 0, 10), ("b", 3, -9, 4), DEEP, 1000), (0, 5))

    def test_one_bucket_would_turn_the_sides_about(self):
        pair = to_pond(("a", 1, 0, 10), ("b", 1, 0, 10), DEEP, 1000)
        self.passes(None, pair, (5, 4))
        self.passes(None, pair, (4, 5))
        self.passes((0, 1, 1), pair, (6, 4))
        # Levels 1/2 and 1/3: a bucket more and one less tell 0 and 2/3.
        self.passes(None, to_pond(("a", 2, 0, 5), ("b", 3, 0, 5), DEEP, 1000), (1, 1))

    def test_down_to_the_sill_and_no_further(self):
        # Sills are whole heights, so of a level above one there is always one bucket at least above it.
        for area in (1, 3, 100):
            mill = to_sea(("a", area, -4, 10), -20, -2, 1000)
            self.passes((0, SEA, 1), mill, (2 * area + 1,))
            self.passes(None, mill, (2 * area,))
            self.passes(None, mill, (2 * area - 1,))


class TestEachBound(Passing):
    def bound(self, told, make, contents):
        # The same number with just that rate and beyond it; with a lesser one the rate.
        giving, taking, buckets = told
        for rate in (buckets, buckets + 1, buckets + 2, 1000):
            self.passes(told, make(rate), contents)
        for rate in {1, buckets - 1} - {0}:
            self.passes((giving, taking, rate), make(rate), contents)

    def test_the_rate(self):
        for rate in (1, 2, 7, 999, 1000):
            self.passes((0, SEA, rate), to_sea(("a", 100, 0, 100), -50, DEEP, rate), (9999,))
            self.passes((SEA, 0, rate), to_sea(("a", 100, 0, 100), 50, DEEP, rate), (0,))
            self.passes((0, 1, rate), to_pond(("a", 100, 50, 100), ("b", 90, 0, 100), DEEP, rate), (4000, 0))

    def test_what_the_giving_pond_has(self):
        self.bound((0, SEA, 5), lambda rate: to_sea(("a", 10, 0, 10), -20, -20, rate), (5,))
        self.bound((0, SEA, 5), lambda rate: to_sea(("a", 10, 0, 10), 0, 0, rate), (5,))
        self.bound((0, SEA, 1), lambda rate: to_sea(("a", 10, 0, 10), -1, -1, rate), (1,))
        self.bound((0, 1, 8), lambda rate: to_pond(("a", 3, 5, 10), ("b", 50, 0, 9), DEEP, rate), (8, 17))

    def test_what_the_taking_pond_can_take(self):
        self.bound((SEA, 0, 6), lambda rate: to_sea(("a", 2, 0, 5), 50, DEEP, rate), (4,))
        self.bound((SEA, 0, 6), lambda rate: to_sea(("a", 2, 0, 5), 5, 4, rate), (4,))
        self.bound((SEA, 0, 1), lambda rate: to_sea(("a", 2, 0, 5), 50, DEEP, rate), (9,))
        self.bound((0, 1, 7), lambda rate: to_pond(("a", 10, 5, 20), ("b", 2, 0, 5), DEEP, rate), (60, 3))

    def test_the_sill(self):
        self.bound((0, SEA, 14), lambda rate: to_sea(("a", 3, 0, 10), -50, 2, rate), (20,))
        self.bound((0, SEA, 1), lambda rate: to_sea(("a", 3, 0, 10), -50, 2, rate), (7,))
        self.bound((0, SEA, 14), lambda rate: to_sea(("a", 3, -7, 3), -50, -5, rate), (20,))
        self.bound((0, 1, 14), lambda rate: to_pond(("a", 3, 0, 10), ("b", 50, -9, 9), 2, rate), (20, 17))

    def test_as_high_behind_it_as_the_sea(self):
        self.bound((0, SEA, 14), lambda rate: to_sea(("a", 3, 0, 10), 2, DEEP, rate), (20,))
        self.bound((SEA, 0, 22), lambda rate: to_sea(("a", 3, 0, 10), 9, DEEP, rate), (5,))
        self.bound((SEA, 0, 1), lambda rate: to_sea(("a", 3, 0, 10), 9, DEEP, rate), (26,))

    def test_two_ponds_as_high_behind_it(self):
        pair = (("a", 4, 0, 10), ("b", 6, 0, 10))
        # Levels 5 and 0; 12 buckets leave 2 and 2.
        self.bound((0, 1, 12), lambda rate: to_pond(*pair, DEEP, rate), (20, 0))
        # Levels 0 and 5; 12 buckets leave 3 and 3.
        self.bound((1, 0, 12), lambda rate: to_pond(*pair, DEEP, rate), (0, 30))

    def test_two_ponds_nearly_as_high_behind_it(self):
        pair = (("a", 4, 0, 10), ("b", 6, 0, 10))
        # As high behind 12 and 3/5 buckets: 12 leave the giving side a little higher, 13 would turn them about.
        self.bound((0, 1, 12), lambda rate: to_pond(*pair, DEEP, rate), (21, 0))
        self.bound((1, 0, 12), lambda rate: to_pond(*pair, DEEP, rate), (0, 31))
        self.bound((0, 1, 49), lambda rate: to_pond(("a", 1, 0, 99), ("b", 1, 0, 99), DEEP, rate), (99, 0))

    def test_each_bound_a_bucket_nearer_or_further(self):
        # One bound is 11, 12 and 13: the rate, what there is, the room, the sill, both as high; the others are 12 or
        # more, the rate among them.
        for buckets in (11, 12, 13):
            told = (0, 1, min(buckets, 12))
            self.passes(told, to_pond(("a", 1, 0, 30), ("b", 1, -6, 30), 6, buckets), (18, 0))
            self.passes(told, to_pond(("a", 1, 0, 30), ("b", 1, -99, 30), DEEP, 12), (buckets, 0))
            self.passes(told, to_pond(("a", 1, 0, 40), ("b", 1, -20, 0), 6, 12), (30, 20 - buckets))
            self.passes(told, to_pond(("a", 1, 0, 30), ("b", 1, -9, 30), 18 - buckets, 12), (18, 0))
            self.passes(told, to_pond(("a", 1, 0, 30), ("b", 1, 18 - 2 * buckets, 30), DEEP, 12), (18, 0))

    def test_several_bounds_at_once(self):
        self.passes((0, 1, 12), to_pond(("a", 1, 0, 30), ("b", 1, -24, -12), 0, 12), (12, 0))


class TestGatesAndTurns(Passing):
    def test_the_sea_is_as_high_as_at_that_turn(self):
        mill = ((0, ((1, (9, 2, 5)),)), (("a", 10, 0, 10),), ((0, SEA, 0, 1000),), ())
        for turn in (0, 3, 6):
            self.passes((0, SEA, 30), mill, (50,), turn)
        for turn in (1, 4, LAST_TURN):
            self.passes(None, mill, (50,), turn)
        for turn in (2, 5, LAST_TURN - 2):
            self.passes((SEA, 0, 40), mill, (50,), turn)

    def test_the_gate_by_its_number(self):
        ponds = (("a", 10, 0, 10), ("b", 10, 0, 10), ("c", 10, 0, 10))
        mill = (flat(4), ponds, ((0, SEA, 5, 1000), (1, 0, 0, 7), (SEA, 2, 3, 9)), ())
        self.tells((0, SEA, 10), passing, mill, (60, 20, 10), 0, 0)
        self.tells((0, 1, 7), passing, mill, (60, 20, 10), 0, 1)
        self.tells((SEA, 2, 9), passing, mill, (60, 20, 10), 0, 2)

    def test_the_third_pond(self):
        ponds = (("a", 1, 0, 10), ("b", 2, 0, 10), ("c", 4, 0, 10))
        for giving, taking in itertools.permutations(range(3), 2):
            contents = tuple(10 * ponds[side][1] if side == giving else 0 for side in range(3))
            areas = ponds[giving][1], ponds[taking][1]
            told = (giving, taking, 10 * areas[0] * areas[1] // sum(areas))
            self.passes(told, (flat(0), ponds, ((giving, taking, 0, 1000),), ()), contents)

    def test_at_the_bounds_of_all_numbers(self):
        deep = ("a", 100, -1000, 1000)
        low = (-1000, ((0, (-1000,)),) * 4)
        self.passes((0, SEA, 1000), (low, (deep,), ((0, SEA, -1000, 1000),), ()), (200000,), LAST_TURN)
        self.passes((0, SEA, 1), (low, (deep,), ((0, SEA, 999, 1000),), ()), (199901,), LAST_TURN)
        self.passes(None, (low, (deep,), ((0, SEA, 1000, 1000),), ()), (200000,), LAST_TURN)
        high = (1000, ((0, (1000,)),) * 4)
        self.passes((SEA, 0, 1000), (high, (deep,), ((0, SEA, 1000, 1000),), ()), (0,), LAST_TURN)
        self.passes(None, (high, (deep,), ((0, SEA, 1000, 1000),), ()), (200000,), LAST_TURN)


class TestAgainstASearch(Passing):
    def test_pond_and_sea(self):
        numbers = itertools.product((1, 2, 3), (-2, 0), (1, 3), (-4, -2, 0, 2, 5), (-5, -1, 0, 1, 4), (1, 4, 20))
        for area, bottom, depth, base, sill, rate in numbers:
            mill = to_sea(("a", area, bottom, bottom + depth), base, sill, rate)
            for content in range(area * depth + 1):
                self.tells(plain_passing(mill, (content,), 0, 0), passing, mill, (content,), 0, 0)

    def test_pond_and_pond(self):
        numbers = itertools.product((1, 2, 3), (1, 3, 4), (-2, 0, 1), (1, 2), (2, 3), (-5, 0, 1, 2), (1, 3, 20))
        for one, other, bottom, depth, other_depth, sill, rate in numbers:
            mill = to_pond(("a", one, bottom, bottom + depth), ("b", other, 0, other_depth), sill, rate)
            for contents in itertools.product(range(one * depth + 1), range(0, other * other_depth + 1, 3)):
                self.tells(plain_passing(mill, contents, 0, 0), passing, mill, contents, 0, 0)

    def test_over_many_small_mills(self):
        for draw, mill, contents in small_mills(500):
            for gate, turn in itertools.product(range(len(mill[2])), (0, 1, 2, LAST_TURN)):
                self.tells(plain_passing(mill, contents, turn, gate), passing, mill, contents, turn, gate)

    def test_what_is_promised_of_a_gate(self):
        passed = 0
        for draw, mill, contents in small_mills(300):
            for gate, turn in itertools.product(range(len(mill[2])), (0, 1)):
                told = self.ask(passing, mill, contents, turn, gate)
                if told:
                    self.keeps(mill, contents, turn, mill[2][gate], told)
                    passed += 1
        self.assertGreater(passed, 100)

    def keeps(self, mill, contents, turn, gate, told):
        giving, taking, buckets = told
        behind = moved(contents, giving, taking, buckets)
        self.assertTrue(stands_right(mill, behind))
        self.assertEqual({giving, taking}, set(gate[:2]))
        self.assertTrue(1 <= buckets <= gate[3])
        self.assertGreater(height(mill, contents, giving, turn), height(mill, contents, taking, turn))
        self.assertGreaterEqual(height(mill, behind, giving, turn), height(mill, behind, taking, turn))
        self.assertGreaterEqual(height(mill, behind, giving, turn), gate[2])


class TestCanTurn(Asking):
    def can(self, told, mill, contents, turn=0, wheel=0):
        self.tells(told, can_turn, mill, contents, turn, wheel)
        self.assertEqual(plain_can_turn(mill, contents, turn, wheel), told)

    def test_the_fall_to_the_sea(self):
        mill = (flat(3), (("a", 100, 0, 10),), (), ((0, SEA, 2, 1, 1),))
        self.can(False, mill, (499,))
        self.can(True, mill, (500,))
        self.can(True, mill, (501,))
        self.can(False, mill, (100,))
        self.can(False, mill, (300,))

    def test_the_fall_to_a_pond(self):
        mill = (flat(50), (("a", 3, 0, 10), ("b", 7, 0, 10)), (), ((0, 1, 2, 1, 1),))
        self.can(True, mill, (12, 14))
        self.can(False, mill, (12, 15))
        self.can(False, mill, (11, 14))
        self.can(True, mill, (12, 13))
        # Levels 3 and 8/7, then 10/3 and 9/7: the fall is a little less than 2, then a little more.
        self.can(False, mill, (9, 8))
        self.can(True, mill, (10, 9))
        self.can(False, mill, (0, 70))

    def test_the_fall_by_the_tide(self):
        mill = ((0, ((0, (5, 4, 3)),)), (("a", 2, 0, 10),), (), ((0, SEA, 4, 2, 1),))
        for turn, told in ((0, False), (1, True), (2, True), (3, False), (LAST_TURN, True), (LAST_TURN - 1, False)):
            self.can(told, mill, (16,), turn)

    def test_the_drink(self):
        mill = (flat(-50), (("a", 10, 0, 10),), (), ((0, SEA, 1, 6, 1),))
        self.can(False, mill, (0,))
        self.can(False, mill, (5,))
        self.can(True, mill, (6,))
        self.can(True, mill, (7,))

    def test_the_room_of_the_tail(self):
        mill = (flat(0), (("a", 10, 50, 60), ("b", 3, 0, 4)), (), ((0, 1, 1, 5, 1),))
        self.can(True, mill, (20, 0))
        self.can(True, mill, (20, 7))
        self.can(False, mill, (20, 8))
        self.can(False, mill, (20, 12))

    def test_a_tail_that_can_never_take_the_drink(self):
        mill = (flat(0), (("a", 10, 50, 60), ("b", 3, 0, 4)), (), ((0, 1, 1, 13, 1), (0, 1, 1, 12, 1)))
        self.can(False, mill, (20, 0), 0, 0)
        self.can(True, mill, (20, 0), 0, 1)
        self.can(False, mill, (20, 1), 0, 1)

    def test_the_sea_takes_any_drink(self):
        mill = (flat(-1000), (("a", 100, 0, 1000),), (), ((0, SEA, 1000, 1000, 1000),))
        self.can(True, mill, (1000,))
        self.can(False, mill, (999,))

    def test_the_sides_may_be_turned_about_behind_it(self):
        # It is asked ahead of the turn alone whether the fall is there.
        mill = (flat(0), (("a", 1, 0, 10), ("b", 1, 0, 10)), (), ((0, 1, 2, 5, 1),))
        self.can(True, mill, (5, 3))

    def test_the_greatest_fall(self):
        mill = (flat(-1000), (("a", 100, -1000, 1000),), (), ((0, SEA, 2000, 1, 1),))
        self.can(True, mill, (200000,), LAST_TURN)
        self.can(False, mill, (199999,), LAST_TURN)

    def test_the_wheel_by_its_number(self):
        ponds = (("a", 10, 0, 10), ("b", 10, 0, 10), ("c", 10, 0, 10))
        mill = (flat(2), ponds, (), ((0, SEA, 3, 1, 1), (2, 1, 3, 1, 1), (1, 0, 3, 1, 1)))
        for wheel, told in enumerate((True, False, False)):
            self.can(told, mill, (50, 10, 30), 0, wheel)
        for wheel, told in enumerate((False, True, False)):
            self.can(told, mill, (40, 10, 40), 0, wheel)
        for wheel, told in enumerate((False, False, True)):
            self.can(told, mill, (10, 50, 30), 0, wheel)

    def test_over_many_small_mills(self):
        told = []
        for draw, mill, contents in small_mills(600):
            for wheel, turn in itertools.product(range(len(mill[3])), (0, 1, 2, LAST_TURN)):
                self.can(plain_can_turn(mill, contents, turn, wheel), mill, contents, turn, wheel)
                told.append(plain_can_turn(mill, contents, turn, wheel))
        self.assertGreater(min(told.count(True), told.count(False)), 100)


class TestShifted(Asking):
    def test_between_two_ponds(self):
        self.tells((3, 9), shifted, (5, 7), 0, 1, 2)
        self.tells((7, 5), shifted, (5, 7), 1, 0, 2)
        self.tells((0, 12), shifted, (5, 7), 0, 1, 5)
        self.tells((5, 4, 4), shifted, (5, 7, 1), 1, 2, 3)
        self.tells((8, 7, 6), shifted, (5, 7, 9), 2, 0, 3)

    def test_from_the_sea(self):
        self.tells((8,), shifted, (5,), SEA, 0, 3)
        self.tells((5, 10, 1), shifted, (5, 7, 1), SEA, 1, 3)
        self.tells((5, 7, 4), shifted, (5, 7, 1), SEA, 2, 3)

    def test_to_the_sea(self):
        self.tells((2,), shifted, (5,), 0, SEA, 3)
        self.tells((0,), shifted, (5,), 0, SEA, 5)
        self.tells((5, 4, 1), shifted, (5, 7, 1), 1, SEA, 3)
        self.tells((5, 7, 0), shifted, (5, 7, 1), 2, SEA, 1)

    def test_no_buckets(self):
        for one, other in itertools.permutations((SEA, 0, 1, 2), 2):
            self.tells((5, 7, 1), shifted, (5, 7, 1), one, other, 0)

    def test_every_pair_of_sides(self):
        for one, other in itertools.permutations((SEA, 0, 1, 2), 2):
            self.tells(moved((50, 70, 100), one, other, 13), shifted, (50, 70, 100), one, other, 13)

    def test_there_and_back(self):
        for one, other in itertools.permutations((SEA, 0, 1, 2), 2):
            behind = self.ask(shifted, (200000, 100000, 5), one, other, 5)
            self.tells((200000, 100000, 5), shifted, behind, other, one, 5)

    def test_what_was_handed_in_is_as_it_was(self):
        contents = (5, 7, 1)
        self.assertEqual(shifted(contents, 0, 1, 2), (3, 9, 1))
        self.assertEqual(contents, (5, 7, 1))
        self.assertEqual(shifted(contents, 0, 1, 2), (3, 9, 1))


if __name__ == "__main__":
    unittest.main()
