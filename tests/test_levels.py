"""Point 12, and what point 2 says of it."""

import itertools
import math
import unittest
from fractions import Fraction

from asking import FAR, LAST_TURN, Asking
from plain import height, small_mills
from tidepond.levels import at_least, fall_of, fraction, level, side_level

SEA = -1
# At turn 0 the sea stands at 7, at turn 1 at -4, at the last turn at 7 again.
TIDE = (2, ((0, (5, -6)),))
PONDS = (("mere", 10, -5, 5), ("upper", 3, 0, 8), ("low", 100, -1000, -999))
MILL = (TIDE, PONDS, (), ())


def as_told(value):
    return (value.numerator, value.denominator)


class TestFraction(Asking):
    def test_top_nought(self):
        for under in (1, 2, 60, FAR):
            self.tells((0, 1), fraction, 0, under)

    def test_under_one(self):
        for top in (-FAR, -7, -1, 1, 7, FAR):
            self.tells((top, 1), fraction, top, 1)

    def test_without_a_common_divisor(self):
        for top, under in ((1, 2), (3, 2), (9, 4), (7, 100), (100, 7), (-1, 2), (-9, 4), (-100, 7)):
            self.tells((top, under), fraction, top, under)

    def test_with_a_common_divisor(self):
        self.tells((1, 2), fraction, 2, 4)
        self.tells((3, 2), fraction, 9, 6)
        self.tells((2, 3), fraction, 12, 18)
        self.tells((-1, 2), fraction, -2, 4)
        self.tells((-3, 2), fraction, -9, 6)
        self.tells((-2, 3), fraction, -12, 18)

    def test_a_whole_number(self):
        self.tells((5, 1), fraction, 35, 7)
        self.tells((-5, 1), fraction, -35, 7)
        self.tells((1, 1), fraction, 9, 9)
        self.tells((-1, 1), fraction, -9, 9)

    def test_sixty_figures(self):
        self.tells((1, 1), fraction, FAR, FAR)
        self.tells((-1, 1), fraction, -FAR, FAR)
        self.tells((FAR, FAR - 1), fraction, FAR, FAR - 1)
        self.tells((-FAR, FAR - 1), fraction, -FAR, FAR - 1)
        self.tells((1, 9), fraction, FAR // 9, FAR)
        self.tells((9, 1), fraction, FAR, FAR // 9)
        self.tells((3 ** 20, 2 ** 40), fraction, 3 ** 20 * 7 ** 50, 2 ** 40 * 7 ** 50)
        self.tells((-(5 ** 85), 2 ** 199), fraction, -(5 ** 85), 2 ** 199)

    def test_lowest_terms_of_all_small_ones(self):
        for top, under in itertools.product(range(-40, 41), range(1, 41)):
            told = self.ask(fraction, top, under)
            self.assertEqual(repr(told), repr(as_told(Fraction(top, under))))
            self.assertGreaterEqual(told[1], 1)
            self.assertEqual(math.gcd(*told), 1)
            self.assertEqual(told[0] * under, top * told[1])


class TestLevel(Asking):
    def test_empty_is_as_high_as_the_bottom(self):
        for area, bottom in itertools.product((1, 3, 100), (-1000, -5, 0, 5, 999)):
            self.tells((bottom, 1), level, ("a", area, bottom, 1000), 0)

    def test_full_is_as_high_as_the_rim(self):
        for area, bottom, rim in itertools.product((1, 3, 100), (-1000, -5, 0), (1, 5, 1000)):
            self.tells((rim, 1), level, ("a", area, bottom, rim), area * (rim - bottom))

    def test_between(self):
        self.tells((1, 2), level, ("mere", 10, -5, 5), 55)
        self.tells((-9, 2), level, ("mere", 10, -5, 5), 5)
        self.tells((-49, 10), level, ("mere", 10, -5, 5), 1)
        self.tells((7, 3), level, ("upper", 3, 0, 8), 7)
        self.tells((2, 1), level, ("upper", 3, 0, 8), 6)

    def test_at_nought(self):
        self.tells((0, 1), level, ("mere", 10, -5, 5), 50)

    def test_just_below_and_just_above_nought(self):
        self.tells((-1, 10), level, ("mere", 10, -5, 5), 49)
        self.tells((1, 10), level, ("mere", 10, -5, 5), 51)

    def test_area_one(self):
        for content in range(6):
            self.tells((content - 3, 1), level, ("a", 1, -3, 2), content)

    def test_area_a_hundred(self):
        self.tells((-99999, 100), level, PONDS[2], 1)
        self.tells((-1999, 2), level, PONDS[2], 50)
        self.tells((-99901, 100), level, PONDS[2], 99)
        self.tells((99999, 100), level, ("a", 100, -1000, 1000), 199999)

    def test_every_content_of_small_ponds(self):
        for area, bottom, depth in itertools.product((1, 2, 3, 6, 10), range(-4, 3), (1, 3)):
            for content in range(area * depth + 1):
                told = as_told(bottom + Fraction(content, area))
                self.tells(told, level, ("a", area, bottom, bottom + depth), content)


class TestSideLevel(Asking):
    def test_each_pond(self):
        for turn in (0, 1, LAST_TURN):
            self.tells((-9, 2), side_level, MILL, (5, 7, 1), 0, turn)
            self.tells((7, 3), side_level, MILL, (5, 7, 1), 1, turn)
            self.tells((-99999, 100), side_level, MILL, (5, 7, 1), 2, turn)

    def test_ponds_empty_and_full(self):
        for side, rim in enumerate((5, 8, -999)):
            self.tells((PONDS[side][2], 1), side_level, MILL, (0, 0, 0), side, 0)
            self.tells((rim, 1), side_level, MILL, (100, 24, 100), side, 0)

    def test_the_sea(self):
        for contents in ((0, 0, 0), (100, 24, 100)):
            self.tells((7, 1), side_level, MILL, contents, SEA, 0)
            self.tells((-4, 1), side_level, MILL, contents, SEA, 1)
            self.tells((-4, 1), side_level, MILL, contents, SEA, LAST_TURN - 1)
            self.tells((7, 1), side_level, MILL, contents, SEA, LAST_TURN)

    def test_the_sea_at_nought_and_at_its_bounds(self):
        for base, rings in ((0, ()), (1000, ((3, (1000,)),) * 4), (-1000, ((3, (-1000,)),) * 4)):
            for turn in (0, LAST_TURN):
                told = (base * (1 + len(rings)), 1)
                self.tells(told, side_level, ((base, rings), PONDS[:1], (), ()), (7,), SEA, turn)

    def test_shifts_of_rings_count(self):
        mill = ((0, ((2, (1, 2, 3)), (1, (10, 20)))), PONDS[:1], (), ())
        for turn, told in enumerate((23, 11, 22, 13, 21, 12, 23)):
            self.tells((told, 1), side_level, mill, (0,), SEA, turn)


class TestFallOf(Asking):
    def test_between_two_ponds(self):
        # Levels -9/2 and 7/3.
        self.tells((-41, 6), fall_of, MILL, (5, 7, 1), 0, 1, 0)
        self.tells((41, 6), fall_of, MILL, (5, 7, 1), 1, 0, 0)
        self.tells((41, 6), fall_of, MILL, (5, 7, 1), 1, 0, 1)

    def test_between_two_ponds_as_high(self):
        self.tells((0, 1), fall_of, MILL, (70, 6, 0), 0, 1, 0)
        self.tells((0, 1), fall_of, MILL, (70, 6, 0), 1, 0, LAST_TURN)

    def test_from_a_pond_to_the_sea(self):
        self.tells((-23, 2), fall_of, MILL, (5, 7, 1), 0, SEA, 0)
        self.tells((-1, 2), fall_of, MILL, (5, 7, 1), 0, SEA, 1)
        self.tells((19, 3), fall_of, MILL, (5, 7, 1), 1, SEA, 1)
        self.tells((0, 1), fall_of, MILL, (10, 7, 1), 0, SEA, 1)
        self.tells((-14, 3), fall_of, MILL, (5, 7, 1), 1, SEA, LAST_TURN)

    def test_from_the_sea_to_a_pond(self):
        self.tells((23, 2), fall_of, MILL, (5, 7, 1), SEA, 0, 0)
        self.tells((1, 2), fall_of, MILL, (5, 7, 1), SEA, 0, 1)
        self.tells((-19, 3), fall_of, MILL, (5, 7, 1), SEA, 1, 1)
        self.tells((0, 1), fall_of, MILL, (10, 7, 1), SEA, 0, 1)
        self.tells((14, 3), fall_of, MILL, (5, 7, 1), SEA, 1, LAST_TURN)

    def test_in_lowest_terms(self):
        ponds = (("a", 4, 0, 5), ("b", 6, 0, 5))
        mill = ((0, ()), ponds, (), ())
        self.tells((1, 12), fall_of, mill, (1, 1), 0, 1, 0)
        self.tells((2, 3), fall_of, mill, (6, 5), 0, 1, 0)
        self.tells((1, 3), fall_of, mill, (2, 1), 0, 1, 0)
        self.tells((1, 1), fall_of, mill, (6, 3), 0, 1, 0)
        self.tells((-1, 1), fall_of, mill, (2, 9), 0, 1, 0)

    def test_far_apart(self):
        ponds = (("a", 100, -1000, 1000), ("b", 99, -1000, 1000))
        low = ((-1000, ((0, (-1000,)),) * 4), ponds, (), ())
        self.tells((2000, 1), fall_of, low, (200000, 0), 0, 1, 0)
        self.tells((6000, 1), fall_of, low, (200000, 0), 0, SEA, LAST_TURN)
        self.tells((-6000, 1), fall_of, low, (200000, 0), SEA, 0, LAST_TURN)
        self.tells((19799801, 9900), fall_of, low, (199999, 1), 0, 1, 0)

    def test_over_many_small_mills(self):
        for draw, mill, contents in small_mills(120):
            for one, other in itertools.permutations(range(-1, len(mill[1])), 2):
                for turn in (0, 1, 5, LAST_TURN):
                    self.tells(as_told(height(mill, contents, one, turn)), side_level, mill, contents, one, turn)
                    fall = height(mill, contents, one, turn) - height(mill, contents, other, turn)
                    self.tells(as_told(fall), fall_of, mill, contents, one, other, turn)


class TestAtLeast(Asking):
    def test_alike(self):
        for each in ((0, 1), (1, 1), (-1, 1), (7, 3), (-7, 3), (FAR, 1), (-FAR, FAR - 1)):
            self.tells(True, at_least, each, each)

    def test_just_more_and_just_less(self):
        for more, less in (
                ((1, 1), (0, 1)), ((0, 1), (-1, 1)), ((1, 100), (0, 1)), ((0, 1), (-1, 100)), ((8, 3), (7, 3)),
                ((-7, 3), (-8, 3)), ((1, 99), (1, 100)), ((-1, 100), (-1, 99)), ((2, 1), (199, 100)),
                ((-199, 100), (-2, 1)), ((2, 3), (5, 8)), ((-5, 8), (-2, 3))):
            self.tells(True, at_least, more, less)
            self.tells(False, at_least, less, more)

    def test_tops_below_nought_on_one_side(self):
        self.tells(True, at_least, (1, 100), (-50, 3))
        self.tells(False, at_least, (-50, 3), (1, 100))

    def test_sixty_figures(self):
        self.tells(True, at_least, (FAR - 1, FAR), (FAR - 2, FAR - 1))
        self.tells(False, at_least, (FAR - 2, FAR - 1), (FAR - 1, FAR))
        self.tells(False, at_least, (-(FAR - 1), FAR), (-(FAR - 2), FAR - 1))
        self.tells(True, at_least, (FAR, 1), (FAR - 1, 1))
        self.tells(False, at_least, (FAR - 1, 1), (FAR, 1))

    def test_all_small_ones(self):
        small = sorted({Fraction(top, under) for top in range(-9, 10) for under in range(1, 8)})
        for one, other in itertools.product(small, repeat=2):
            self.tells(one >= other, at_least, as_told(one), as_told(other))


if __name__ == "__main__":
    unittest.main()
