"""Point 22, and what points 2 and 4 say of it."""

import itertools
import unittest

from asking import Asking
from plain_plans import all_reached, best_of, bounded_mills, each_plan, most_of_plans, tidal_mills, turns_for
from planning import BARE, CHOICE, DRAINING, FAR_TURN, FILLING, LARGE, OPEN, POND, SEA, SHUT, TIDES, Planning
from tidepond.layers import layers
from tidepond.most import most


class MostAsked(Planning):
    def is_ground(self, expected, mill, contents, setting, turn, turns):
        self.plans(expected, turns, most, mill, contents, setting, turn, turns)


class TestWrittenMills(MostAsked):
    def test_no_turns(self):
        for turn in (0, 1, FAR_TURN):
            for mill, contents, setting in (
                    (BARE, (2,), ()), (FILLING, (0,), OPEN), (DRAINING, (3,), ()), (TIDES, (3,), SHUT)):
                self.tells((0, 0, []), most, mill, contents, setting, turn, 0)

    def test_neither_gates_nor_wheels(self):
        for turns in (1, 2, 40):
            self.tells((0, 0, [((), ())] * turns), most, BARE, (2,), (), 5, turns)

    def test_gates_and_no_wheels(self):
        for setting in (OPEN, SHUT):
            for turns in (1, 2, 40):
                self.tells((0, 0, [(setting, ())] * turns), most, FILLING, (0,), setting, 5, turns)

    def test_wheels_and_no_gates(self):
        for turns in range(7):
            self.is_ground((7 * min(turns, 3), 0), DRAINING, (3,), (), 0, turns)
            self.is_ground((0, 0), DRAINING, (0,), (), 0, turns)

    def test_the_tide_and_the_gate(self):
        # One bucket is there for the first low water; each time that the gate is opened and shut brings up to two.
        told = {1: (0, 0), 2: (5, 0), 3: (5, 0), 4: (10, 2), 5: (10, 2), 6: (15, 2), 8: (20, 4)}
        for turns, expected in told.items():
            for turn in (0, 2, FAR_TURN):
                self.is_ground(expected, TIDES, (1,), SHUT, turn, turns)

    def test_the_setting_at_first_counts_for_the_moves(self):
        self.is_ground((5, 0), TIDES, (1,), SHUT, 1, 1)
        self.is_ground((5, 1), TIDES, (1,), OPEN, 1, 1)
        self.is_ground((5, 0), TIDES, (3,), OPEN, 1, 1)
        self.is_ground((0, 0), TIDES, (0,), OPEN, 1, 1)

    def test_no_gate_is_moved_where_as_much_is_ground_without(self):
        for content in range(4):
            self.is_ground((0, 0), TIDES, (content,), OPEN, 0, 1)
            self.is_ground((0, 0), TIDES, (content,), SHUT, 0, 1)
        still = ((-5, ()), (POND,), ((SEA, 0, 3, 1),) * 3, ((0, SEA, 1, 1, 7),))
        for setting in itertools.product((False, True), repeat=3):
            self.is_ground((21, 0), still, (3,), setting, 0, 5)

    def test_moves_are_made_however_many_for_a_little_more_ground(self):
        # Every second turn the sea fills the pond by the one gate, and only with the gate shut can the wheel turn.
        mill = ((0, ((0, (1, -1)),)), (("a", 1, 0, 1),), ((SEA, 0, 0, 1),), ((0, SEA, 1, 1, 1),))
        for turns in range(0, 12):
            self.is_ground((turns // 2, turns // 2 * 2), mill, (0,), SHUT, 0, turns)

    def test_a_wheel_is_let_stand_so_that_another_grinds_more(self):
        # Both wheels drink all that is there, and the one that comes first grinds less.
        mill = ((-5, ()), (POND,), (), ((0, SEA, 1, 3, 2), (0, SEA, 1, 3, 9)))
        self.is_ground((9, 0), mill, (3,), (), 0, 1)
        ground, moves, plan = most(mill, (3,), (), 0, 1)
        self.assertEqual(plan, [((), (False, True))])

    def test_water_is_kept_for_a_greater_fall(self):
        # The weak wheel could turn at once, but then there is no water at the low tide.
        self.is_ground((3, 0), CHOICE, (2,), (), 0, 1)
        self.is_ground((3, 0), CHOICE, (2,), (), 0, 2)
        self.is_ground((10, 0), CHOICE, (2,), (), 0, 3)
        self.is_ground((10, 0), CHOICE, (2,), (), 2, 1)
        self.is_ground((10, 0), CHOICE, (2,), (), FAR_TURN - FAR_TURN % 3 + 2, 1)

    def test_the_greatest_grinds(self):
        mill = ((-50, ()), (("a", 100, 0, 2),), (), ((0, SEA, 1, 1, 1000),) * 3)
        self.is_ground((120000, 0), mill, (200,), (), FAR_TURN, 40)


class TestAllPlansOneByOne(MostAsked):
    def test_over_many_small_mills(self):
        moved = 0
        for draw, mill, contents, setting in itertools.chain(bounded_mills(150, 2000), tidal_mills(100)):
            turn = draw.choice((0, 1, 2, 3, FAR_TURN))
            turns = turns_for(mill, 600)
            expected = most_of_plans(each_plan(mill, contents, setting, turn, turns))
            self.is_ground(expected, mill, contents, setting, turn, turns)
            moved += min(expected) > 0
        self.assertGreater(moved, 20)


class TestLongerPlans(MostAsked):
    def test_against_all_that_plans_come_to(self):
        moved = 0
        for draw, mill, contents, setting in tidal_mills(60):
            turn = draw.choice((0, 1, 2, 3, FAR_TURN))
            reached = all_reached(mill, contents, setting, turn, 6)
            for turns in range(7):
                expected = best_of(reached[turns])
                self.is_ground(expected, mill, contents, setting, turn, turns)
            moved += min(expected) > 0
        self.assertGreater(moved, 20)

    def test_forty_turns_of_a_small_mill(self):
        for turn in (0, 1, FAR_TURN):
            reached = all_reached(TIDES, (1,), SHUT, turn, 40)
            for turns in (0, 7, 39, 40):
                self.is_ground(best_of(reached[turns]), TIDES, (1,), SHUT, turn, turns)

    def test_forty_turns_of_a_large_mill(self):
        setting = (True, False, True)
        last = layers(LARGE, (4, 9), setting, FAR_TURN, 40)[-1]
        expected = best_of(last)
        self.assertGreater(min(expected), 0)
        self.is_ground(expected, LARGE, (4, 9), setting, FAR_TURN, 40)


class TestWhatIsToldIsTheAskersOwn(Asking):
    def test_the_plan_may_be_changed_and_is_told_anew(self):
        for turns in (0, 1, 6):
            first = most(TIDES, (1,), SHUT, 0, turns)
            before = repr(first)
            second = most(TIDES, (1,), SHUT, 0, turns)
            self.assertIsNot(first[2], second[2])
            second[2].append("rubbish")
            second[2].reverse()
            self.assertEqual(repr(first), before)
            first[2].clear()
            self.assertEqual(repr(most(TIDES, (1,), SHUT, 0, turns)), before)

    def test_other_questions_between_change_nothing(self):
        first = most(TIDES, (1,), SHUT, 0, 6)
        before = repr(first)
        for draw, mill, contents, setting in bounded_mills(20, 200):
            most(mill, contents, setting, 3, 3)
        most(TIDES, (2,), OPEN, 1, 7)
        self.assertEqual(repr(first), before)
        self.assertEqual(repr(most(TIDES, (1,), SHUT, 0, 6)), before)

    def test_the_kinds_of_what_is_told(self):
        for turns in (0, 1, 6):
            told = most(TIDES, (1,), SHUT, 0, turns)
            self.assertEqual([type(told)] + [type(part) for part in told], [tuple, int, int, list])


if __name__ == "__main__":
    unittest.main()
