"""Points 8, 9 and 10."""

import itertools
import unittest

from asking import FAR, Asking
from tidepond.mills import holds, is_name, right_mill

RING = (0, (0, 1, 2))
RINGS = ((0, (0, 4, 0, -4)), (1000, (1, 2, 3)), (7, (-1000, 1000)), (5, (6,)))
PONDS = (("mere", 10, -5, 5), ("upper", 3, 0, 8), ("z", 1, -1, 0))
GATES = ((-1, 0, -3, 20), (0, 1, 0, 5), (2, -1, -1, 1))
WHEELS = ((0, -1, 2, 10, 3), (1, 0, 1, 2, 5), (2, 1, 3, 1, 1))
MILL = ((1, RINGS), PONDS, GATES, WHEELS)

# The least and the greatest of each number of a mill, by its place in the mill.
BOUNDS = [
    (("tide", 0), (0, 0), -1000, 1000),
    (("ring", 1), (0, 1, 1, 0), 0, 1000),
    (("ring", 2), (0, 1, 2, 1, 0), -1000, 1000),
    (("ring", 2), (0, 1, 2, 1, 1), -1000, 1000),
    (("pond", 1), (1, 1, 1), 1, 100),
    (("gate", 1), (2, 1, 2), -1000, 1000),
    (("gate", 1), (2, 1, 3), 1, 1000),
    (("wheel", 1), (3, 1, 2), 1, 2000),
    (("wheel", 1), (3, 1, 3), 1, 1000),
    (("wheel", 1), (3, 1, 4), 1, 1000),
]

# One fault each, in the order in which they are told: word and number, place in the mill, what stands there.
FAULTS = [
    (("tide", 0), (0, 0), 1001),
    (("ring", 0), (0, 1, 0, 0), 1001),
    (("ring", 1), (0, 1, 1, 1), ()),
    (("ring", 2), (0, 1, 2, 1, 1), -1001),
    (("ring", 3), (0, 1, 3, 1), (0,) * 61),
    (("pond", 0), (1, 0, 0), "sea"),
    (("pond", 1), (1, 1, 1), 0),
    (("pond", 2), (1, 2, 3), -1),
    (("gate", 0), (2, 0, 1), 3),
    (("gate", 1), (2, 1, 2), 1001),
    (("gate", 2), (2, 2, 3), 0),
    (("wheel", 0), (3, 0, 0), -1),
    (("wheel", 1), (3, 1, 1), 1),
    (("wheel", 2), (3, 2, 2), 2001),
]


def put(mill, place, value):
    if not place:
        return value
    return mill[:place[0]] + (put(mill[place[0]], place[1:], value),) + mill[place[0] + 1:]


def with_rings(*rings):
    return put(MILL, (0, 1), rings)


def with_lengths(*lengths):
    return with_rings(*[(0, (0,) * length) for length in lengths])


class TestIsName(Asking):
    def test_lengths(self):
        self.tells(False, is_name, "")
        self.tells(True, is_name, "a")
        self.tells(True, is_name, "abcdefgh")
        self.tells(False, is_name, "abcdefghi")
        self.tells(False, is_name, "a" * 500)

    def test_every_small_letter(self):
        for letter in "abcdefghijklmnopqrstuvwxyz":
            self.tells(True, is_name, letter)
            self.tells(True, is_name, "mer" + letter)

    def test_every_other_sign_ahead_within_and_behind(self):
        signs = [chr(number) for number in range(ord(" "), ord("~") + 1)]
        for sign in [sign for sign in signs if not "a" <= sign <= "z" and ord(sign) != 37]:
            for word in (sign, sign + "me", "m" + sign + "e", "me" + sign):
                with self.subTest(word=word):
                    self.tells(False, is_name, word)

    def test_sea_is_none(self):
        self.tells(False, is_name, "sea")

    def test_what_is_nearly_sea_is_one(self):
        for word in ("s", "se", "seas", "asea", "ea", "aes", "seasea"):
            self.tells(True, is_name, word)


class TestHolds(Asking):
    def test_ordinary_ponds(self):
        self.tells(100, holds, ("mere", 10, -5, 5))
        self.tells(24, holds, ("upper", 3, 0, 8))
        self.tells(35, holds, ("low", 7, -10, -5))

    def test_at_the_bounds(self):
        self.tells(1, holds, ("a", 1, 999, 1000))
        self.tells(1, holds, ("a", 1, -1000, -999))
        self.tells(2000, holds, ("a", 1, -1000, 1000))
        self.tells(100, holds, ("a", 100, -1000, -999))
        self.tells(200000, holds, ("a", 100, -1000, 1000))


class TestRightMills(Asking):
    def test_ordinary_ones(self):
        self.tells(True, right_mill, MILL)
        self.tells(True, right_mill, ((0, (RING,)), PONDS[:2], GATES[:2], WHEELS[:1]))

    def test_the_smallest_one(self):
        self.tells(True, right_mill, ((0, ()), (("a", 1, 0, 1),), (), ()))

    def test_how_many_there_may_be(self):
        for rings, gates, wheels in itertools.product(range(5), range(4), range(4)):
            self.tells(True, right_mill, ((1, RINGS[:rings]), PONDS, GATES[:gates], WHEELS[:wheels]))
        for ponds in (1, 2, 3):
            self.tells(True, right_mill, ((1, ()), PONDS[:ponds], (), ()))

    def test_each_number_at_its_bounds(self):
        for refusal, place, least, greatest in BOUNDS:
            for number in (least, least + 1, greatest - 1, greatest):
                with self.subTest(place=place, number=number):
                    self.tells(True, right_mill, put(MILL, place, number))

    def test_bottom_and_rim_at_their_bounds(self):
        for bottom, rim in ((-1000, -999), (-1000, 1000), (999, 1000), (-1, 0), (0, 1)):
            self.tells(True, right_mill, put(MILL, (1, 1), ("upper", 3, bottom, rim)))

    def test_how_many_heights_there_may_be(self):
        for length in (1, 2, 59, 60):
            self.tells(True, right_mill, with_lengths(length))

    def test_whole_rounds_up_to_the_longest(self):
        for lengths in ((16, 9, 5, 7), (60, 48, 36, 7), (59, 58), (60, 60, 60, 60), (59, 42, 2)):
            self.tells(True, right_mill, with_lengths(*lengths))

    def test_names_at_their_bounds(self):
        for name in ("a", "abcdefgh", "se", "seas", "mer", "meres"):
            self.tells(True, right_mill, put(MILL, (1, 1, 0), name))

    def test_every_pair_of_unlike_sides(self):
        for one, other in itertools.permutations((-1, 0, 1, 2), 2):
            self.tells(True, right_mill, put(MILL, (2, 1), (one, other, 0, 5)))
            if one != -1:
                self.tells(True, right_mill, put(MILL, (3, 1), (one, other, 1, 2, 5)))

    def test_gates_and_wheels_may_be_alike(self):
        self.tells(True, right_mill, ((1, ()), PONDS, (GATES[0],) * 3, (WHEELS[0],) * 3))


class TestWrongMills(Asking):
    def wrong(self, word, number, mill):
        self.refuses(("NoMill", word, number), right_mill, mill)

    def test_each_number_beyond_its_bounds(self):
        for (word, number), place, least, greatest in BOUNDS:
            for value in (least - 1, greatest + 1, -FAR, FAR):
                with self.subTest(place=place, value=value):
                    self.wrong(word, number, put(MILL, place, value))

    def test_each_ring_pond_gate_and_wheel_is_looked_at(self):
        for n in range(4):
            self.wrong("ring", n, put(MILL, (0, 1, n, 0), 1001))
        for n in range(3):
            self.wrong("pond", n, put(MILL, (1, n, 1), 101))
            self.wrong("gate", n, put(MILL, (2, n, 3), 1001))
            self.wrong("wheel", n, put(MILL, (3, n, 4), 1001))

    def test_every_height_of_a_ring_is_looked_at(self):
        for n in (0, 1, 30, 58, 59):
            for height in (-1001, 1001, -FAR, FAR):
                self.wrong("ring", 0, put(with_lengths(60), (0, 1, 0, 1, n), height))

    def test_no_heights_and_too_many(self):
        for heights in ((), (0,) * 61, (0,) * 62, (0,) * 120, (0,) * 10000):
            self.wrong("ring", 0, with_rings((0, heights)))
            self.wrong("ring", 1, with_rings(RING, (0, heights), RING))

    def test_whole_rounds_above_the_longest(self):
        # 5049 is the least number above 5040 that rings can have as their whole round.
        self.wrong("ring", 2, with_lengths(27, 11, 17))
        self.wrong("ring", 2, with_lengths(59, 58, 57))
        self.wrong("ring", 2, with_lengths(59, 58, 57, 55))
        self.wrong("ring", 3, with_lengths(16, 9, 5, 11))
        self.wrong("ring", 3, with_lengths(16, 27, 5, 7))
        self.wrong("ring", 3, with_lengths(1, 60, 59, 16))

    def test_the_whole_round_is_of_the_rings_up_to_one(self):
        self.wrong("ring", 2, put(with_lengths(27, 11, 17, 1), (0, 1, 3, 0), 1001))
        self.wrong("ring", 1, put(with_lengths(27, 11, 17, 1), (0, 1, 1, 0), 1001))

    def test_the_fifth_ring(self):
        for ring in (RING, (0, (0,)), (1001, ()), RINGS[0]):
            self.wrong("ring", 4, with_rings(*RINGS, ring))
        self.wrong("ring", 4, with_rings(*RINGS, RING, RING, RING))
        self.wrong("ring", 3, with_rings(*RINGS[:3], (-1, (0,)), RING))

    def test_no_ponds(self):
        self.wrong("pond", 0, ((0, ()), (), (), ()))
        self.wrong("pond", 0, put(MILL, (1,), ()))

    def test_the_fourth_pond_gate_and_wheel(self):
        fourth = (("d", 1, 0, 1),)
        self.wrong("pond", 3, put(MILL, (1,), PONDS + fourth))
        self.wrong("pond", 3, put(MILL, (1,), PONDS + fourth * 5))
        self.wrong("gate", 3, put(MILL, (2,), GATES + GATES[:1]))
        self.wrong("gate", 3, put(MILL, (2,), GATES * 3))
        self.wrong("wheel", 3, put(MILL, (3,), WHEELS + WHEELS[:1]))
        self.wrong("wheel", 3, put(MILL, (3,), WHEELS * 3))

    def test_names_that_are_none(self):
        for name in ("", "sea", "abcdefghi", "Mere", "me re", "mere1", "-1", "mere ", "m_e"):
            for n in range(3):
                self.wrong("pond", n, put(MILL, (1, n, 0), name))

    def test_a_name_told_twice(self):
        for earlier, later in ((0, 1), (0, 2), (1, 2)):
            self.wrong("pond", later, put(MILL, (1, later, 0), PONDS[earlier][0]))
        self.wrong("pond", 1, put(MILL, (1,), (PONDS[0],) * 3))

    def test_bottom_not_below_rim(self):
        for bottom, rim in ((5, 5), (-1000, -1000), (1000, 1000), (6, 5), (1000, -1000)):
            self.wrong("pond", 1, put(MILL, (1, 1), ("upper", 3, bottom, rim)))

    def test_bottom_or_rim_beyond_the_bounds(self):
        for bottom, rim in ((-1001, 0), (-FAR, 0), (0, 1001), (0, FAR), (-1001, 1001), (1000, 1001), (-1001, -1000),
                            (FAR - 1, FAR), (-FAR, 1 - FAR)):
            self.wrong("pond", 1, put(MILL, (1, 1), ("upper", 3, bottom, rim)))

    def test_sides_that_are_none(self):
        for side in (-2, 3, 4, -3, -FAR, FAR):
            self.wrong("gate", 1, put(MILL, (2, 1, 0), side))
            self.wrong("gate", 1, put(MILL, (2, 1, 1), side))
            self.wrong("wheel", 1, put(MILL, (3, 1, 0), side))
            self.wrong("wheel", 1, put(MILL, (3, 1, 1), side))

    def test_sides_are_of_the_ponds_there_are(self):
        for ponds in (1, 2):
            self.wrong("gate", 0, ((0, ()), PONDS[:ponds], ((-1, ponds, 0, 1),), ()))
            self.wrong("gate", 0, ((0, ()), PONDS[:ponds], ((ponds, -1, 0, 1),), ()))
            self.wrong("wheel", 0, ((0, ()), PONDS[:ponds], (), ((ponds, -1, 1, 1, 1),)))
            self.wrong("wheel", 0, ((0, ()), PONDS[:ponds], (), ((0, ponds, 1, 1, 1),)))

    def test_a_gate_whose_sides_are_one(self):
        for side in (-1, 0, 1, 2):
            self.wrong("gate", 2, put(MILL, (2, 2), (side, side, 0, 5)))

    def test_a_wheel_whose_pond_is_the_sea(self):
        for tail in (-1, 0, 1, 2):
            self.wrong("wheel", 2, put(MILL, (3, 2), (-1, tail, 1, 2, 5)))

    def test_a_wheel_whose_tail_is_its_pond(self):
        for pond in (0, 1, 2):
            self.wrong("wheel", 2, put(MILL, (3, 2), (pond, pond, 1, 2, 5)))


class TestTheOrder(Asking):
    def wrong(self, refusal, mill):
        self.refuses(("NoMill", *refusal), right_mill, mill)

    def test_of_each_two_faults_the_first_is_told(self):
        for earlier, later in itertools.combinations(FAULTS, 2):
            with self.subTest(earlier=earlier, later=later):
                self.wrong(later[0], put(MILL, later[1], later[2]))
                self.wrong(earlier[0], put(put(MILL, later[1], later[2]), earlier[1], earlier[2]))

    def test_of_all_faults_the_first_is_told(self):
        mill = MILL
        for refusal, place, value in reversed(FAULTS):
            mill = put(mill, place, value)
            self.wrong(refusal, mill)

    def test_one_too_many_stands_behind_those_ahead_and_ahead_of_the_rest(self):
        rings = with_rings(*RINGS, RING)
        ponds = put(MILL, (1,), PONDS + (("d", 1, 0, 1),))
        gates = put(MILL, (2,), GATES + GATES[:1])
        for mill, refusal in ((rings, ("ring", 4)), (ponds, ("pond", 3)), (gates, ("gate", 3))):
            for told, place, value in FAULTS:
                with self.subTest(refusal=refusal, told=told):
                    words = ("tide", "ring", "pond", "gate", "wheel")
                    first = min(refusal, told, key=lambda each: (words.index(each[0]), each[1]))
                    self.wrong(first, put(mill, place, value))

    def test_no_ponds_stand_behind_the_rings_and_ahead_of_the_gates(self):
        empty = put(MILL, (1,), ())
        self.wrong(("tide", 0), put(empty, (0, 0), -1001))
        self.wrong(("ring", 3), put(empty, (0, 1, 3, 0), -1))
        self.wrong(("ring", 4), put(empty, (0, 1), RINGS + (RING,)))
        self.wrong(("pond", 0), put(empty, (2, 0, 3), 0))


if __name__ == "__main__":
    unittest.main()
