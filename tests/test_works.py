"""Points 23, 24 and 25, and what points 2, 3 and 4 say of them."""

import collections
import itertools
import unittest

from asking import FAR, Asking
from plain_plans import (
    all_reached, best_of, bounded_mills, choosing_mills, each_plan, meets, plain_dues, plain_planned, plain_soonest,
    planned_of_plans, tidal_mills, turns_for)
from planning import BARE, CHOICE, DRAINING, FAR_TURN, FILLING, LARGE, OPEN, SEA, SHUT, TIDES, Planning
from tidepond.errors import MillError, NoContent, NoLine, NoMill, NoTime
from tidepond.layers import layers
from tidepond.works import dues, planned, soonest

MOST_AMOUNT = 10 ** 6


class TestDues(Asking):
    def has(self, told, works):
        self.tells(told, dues, works)
        self.assertEqual(plain_dues(works), told)

    def test_no_works(self):
        self.has([], [])

    def test_one_work(self):
        self.has([(1, 1)], [(1, 1)])
        self.has([(40, MOST_AMOUNT)], [(MOST_AMOUNT, 40)])

    def test_each_due_rising_and_all_amounts_up_to_it(self):
        self.has([(3, 5), (4, 7), (10, 107)], [(5, 3), (2, 4), (100, 10)])

    def test_two_of_one_due(self):
        self.has([(3, 7)], [(5, 3), (2, 3)])
        self.has([(3, 10)], [(5, 3), (5, 3)])
        self.has([(2, 1), (3, 8), (4, 12)], [(1, 2), (5, 3), (2, 3), (4, 4)])

    def test_in_any_order(self):
        works = [(5, 3), (2, 4), (100, 10), (1, 3)]
        for order in itertools.permutations(works):
            self.has([(3, 6), (4, 8), (10, 108)], list(order))

    def test_dues_by_their_numbers_and_not_by_amounts_or_as_texts(self):
        self.has([(2, 100), (9, 101), (10, 103)], [(1, 9), (2, 10), (100, 2)])

    def test_twenty_works(self):
        works = [(number, 41 - number) for number in range(1, 21)]
        self.has([(21 + number, sum(range(20 - number, 21))) for number in range(20)], works)
        self.has([(FAR_TURN, 20 * MOST_AMOUNT)], [(MOST_AMOUNT, FAR_TURN)] * 20)


class Works(Planning):
    def meets(self, expected, mill, contents, setting, turn, works):
        turns = max([due - turn for amount, due in works], default=0)
        grounds = self.plans(expected, turns, planned, mill, contents, setting, turn, works)
        self.assertTrue(meets(grounds, turn, works, turn + turns))
        self.assertEqual(plain_planned(mill, contents, setting, turn, works), expected)

    def has_no_time(self, due, most, mill, contents, setting, turn, works):
        expected = ("NoTime", due, most)
        self.refuses(expected, planned, mill, contents, setting, turn, works)
        self.assertEqual(plain_planned(mill, contents, setting, turn, works), expected)

    def is_planned(self, expected, mill, contents, setting, turn, works):
        if expected[0] == "NoTime":
            self.refuses(expected, planned, mill, contents, setting, turn, works)
        else:
            turns = max(due for amount, due in works) - turn
            grounds = self.plans(expected, turns, planned, mill, contents, setting, turn, works)
            self.assertTrue(meets(grounds, turn, works, turn + turns))


class TestPlanned(Works):
    def test_no_works(self):
        for mill, setting in ((BARE, ()), (FILLING, OPEN), (DRAINING, ()), (TIDES, SHUT)):
            for turn in (0, 7, FAR_TURN):
                self.tells((0, 0, []), planned, mill, (2,), setting, turn, [])

    def test_one_work_that_is_just_met(self):
        self.meets((7, 0), DRAINING, (3,), (), 0, [(7, 1)])
        self.meets((14, 0), DRAINING, (3,), (), 0, [(14, 2)])
        self.meets((21, 0), DRAINING, (3,), (), 0, [(21, 3)])

    def test_an_amount_of_one_more(self):
        self.has_no_time(1, 7, DRAINING, (3,), (), 0, [(8, 1)])
        self.has_no_time(2, 14, DRAINING, (3,), (), 0, [(15, 2)])
        self.has_no_time(3, 21, DRAINING, (3,), (), 0, [(22, 3)])
        self.has_no_time(40, 21, DRAINING, (3,), (), 0, [(22, 40)])

    def test_all_is_ground_that_can_be_and_not_only_the_amounts(self):
        self.meets((21, 0), DRAINING, (3,), (), 0, [(1, 3)])
        self.meets((21, 0), DRAINING, (3,), (), 0, [(1, 1), (1, 9)])

    def test_mills_that_grind_nothing(self):
        self.has_no_time(3, 0, BARE, (2,), (), 0, [(1, 3)])
        self.has_no_time(3, 0, FILLING, (2,), OPEN, 0, [(1, 3)])
        self.has_no_time(1, 0, DRAINING, (0,), (), 0, [(1, 1), (1, 9)])

    def test_the_amounts_of_all_works_up_to_a_due(self):
        self.meets((7, 0), DRAINING, (3,), (), 0, [(3, 1), (4, 1)])
        self.has_no_time(1, 7, DRAINING, (3,), (), 0, [(4, 1), (4, 1)])
        self.meets((14, 0), DRAINING, (3,), (), 0, [(7, 1), (7, 2)])
        self.has_no_time(2, 14, DRAINING, (3,), (), 0, [(7, 1), (8, 2)])
        # The later work asks for nothing ahead of its own due.
        self.meets((14, 0), DRAINING, (3,), (), 0, [(14, 2)])
        self.meets((14, 0), DRAINING, (3,), (), 0, [(13, 2), (1, 1)])

    def test_works_in_any_order(self):
        for order in itertools.permutations([(7, 1), (3, 2), (4, 2), (7, 3)]):
            self.meets((21, 0), DRAINING, (3,), (), 0, list(order))
        for order in itertools.permutations([(7, 1), (3, 2), (5, 2), (6, 3)]):
            self.has_no_time(2, 14, DRAINING, (3,), (), 0, list(order))

    def test_the_first_due_that_cannot_be_met(self):
        self.has_no_time(1, 7, DRAINING, (3,), (), 0, [(8, 1), (99, 2)])
        self.has_no_time(2, 14, DRAINING, (3,), (), 0, [(7, 1), (99, 2), (99, 3)])
        self.has_no_time(3, 21, DRAINING, (3,), (), 0, [(7, 1), (7, 2), (8, 3), (MOST_AMOUNT, 40)])

    def test_the_most_among_the_plans_that_meet_the_earlier_works(self):
        # Without the first work ten could be ground by the third turn, but it takes the water for the weak wheel.
        self.meets((10, 0), CHOICE, (2,), (), 0, [(10, 3)])
        self.has_no_time(3, 10, CHOICE, (2,), (), 0, [(11, 3)])
        self.has_no_time(3, 3, CHOICE, (2,), (), 0, [(1, 1), (9, 3)])
        self.has_no_time(3, 3, CHOICE, (2,), (), 0, [(3, 2), (1, 3)])
        self.meets((3, 0), CHOICE, (2,), (), 0, [(1, 1), (2, 3)])
        self.meets((3, 0), CHOICE, (2,), (), 0, [(3, 2)])
        self.has_no_time(2, 3, CHOICE, (2,), (), 0, [(4, 2)])

    def test_more_moves_where_a_work_asks_for_them(self):
        # By the fourth turn five can be ground without a move, ten with two.
        self.meets((10, 2), TIDES, (1,), SHUT, 0, [(1, 4)])
        self.meets((5, 0), TIDES, (1,), SHUT, 0, [(5, 2)])
        self.meets((10, 2), TIDES, (1,), SHUT, 0, [(5, 2), (5, 4)])
        self.has_no_time(4, 10, TIDES, (1,), SHUT, 0, [(5, 2), (6, 4)])

    def test_a_work_that_makes_for_more_moves_with_as_much_ground(self):
        # The sea fills a at turn 2 through the gate that is open; ahead of it only r can, through the one that is shut.
        ponds = (("a", 1, 0, 1), ("tail", 1, -9, -8), ("r", 1, 5, 6))
        mill = ((0, ((0, (0, 0, 3)),)), ponds, ((SEA, 0, 0, 1), (2, 0, 0, 1)), ((0, 1, 1, 1, 4),))
        for works, moves in (([(4, 3)], 0), ([(4, 1)], 1), ([(4, 2)], 1), ([(1, 1), (3, 3)], 1), ([(1, 3)], 0)):
            self.meets((4, moves), mill, (0, 0, 1), (True, False), 0, works)

    def test_forty_turns(self):
        for turn in (0, 1, 6, FAR_TURN):
            self.meets((100, best_of(all_reached(TIDES, (1,), SHUT, turn, 40)[40])[1]), TIDES, (1,), SHUT, turn,
                       [(100, turn + 40)])
            self.has_no_time(turn + 40, 100, TIDES, (1,), SHUT, turn, [(101, turn + 40)])
            works = [(5, turn + number * 2) for number in range(1, 21)]
            expected = plain_planned(TIDES, (1,), SHUT, turn, works)
            self.assertEqual(expected[0], 100)
            self.is_planned(expected, TIDES, (1,), SHUT, turn, works)
            self.has_no_time(turn + 2, 5, TIDES, (1,), SHUT, turn, works[1:] + [(6, turn + 2)])

    def test_twenty_works_of_one_due(self):
        self.meets((21, 0), DRAINING, (3,), (), 0, [(1, 3)] * 20)
        self.has_no_time(2, 14, DRAINING, (3,), (), 0, [(1, 2)] * 20)

    def test_the_greatest_amount(self):
        self.has_no_time(3, 21, DRAINING, (3,), (), 0, [(MOST_AMOUNT, 3)])
        self.has_no_time(FAR_TURN + 1, 7, DRAINING, (3,), (), FAR_TURN, [(MOST_AMOUNT, FAR_TURN + 1)] * 20)

    def test_forty_turns_of_a_large_mill(self):
        setting = (False, True, False)
        last = layers(LARGE, (4, 9), setting, 3, 40)[-1]
        expected = best_of(last)
        works = [(1, due) for due in range(24, 43)] + [(expected[0] - 19, 43)]
        grounds = self.plans(expected, 40, planned, LARGE, (4, 9), setting, 3, works)
        self.assertTrue(meets(grounds, 3, works, 43))
        with self.assertRaises(NoTime) as caught:
            planned(LARGE, (4, 9), setting, 3, works[1:] + [(2, 43)])
        self.assertEqual((caught.exception.due, caught.exception.most), (43, expected[0]))
        self.assertIsNone(soonest(LARGE, (4, 9), setting, 3, expected[0] + 1, 43))


def some_works(draw, turn, turns, most):
    # About as much as can be ground, so that some are met and some are not.
    works = []
    for number in range(draw.randint(1, 4)):
        works.append((draw.randint(1, max(1, most * 2 // 3)), turn + draw.randint(1, turns)))
    return works


class TestManyWorks(Works):
    def test_all_plans_one_by_one(self):
        told = collections.Counter()
        mills = itertools.chain(bounded_mills(40, 2000), tidal_mills(50), choosing_mills(120))
        for draw, mill, contents, setting in mills:
            turn = draw.choice((0, 1, 2, 3, FAR_TURN))
            turns = turns_for(mill, 300)
            # By how many turns they have.
            runs = [each_plan(mill, contents, setting, turn, until) for until in range(turns + 1)]
            for time in range(4):
                works = some_works(draw, turn, turns, max(grounds[-1] for grounds, moves in runs[turns]))
                expected = planned_of_plans(runs[max(due for amount, due in works) - turn], turn, works)
                self.is_planned(expected, mill, contents, setting, turn, works)
                told[expected[0] == "NoTime"] += 1
                if expected[0] == "NoTime":
                    most = max(grounds[-1] for grounds, moves in runs[expected[1] - turn])
                    told["less for the earlier works"] += expected[2] < most
        self.assertGreater(min(told[True], told[False]), 50)
        self.assertGreater(told["less for the earlier works"], 5)

    def test_against_all_that_plans_come_to(self):
        for draw, mill, contents, setting in itertools.chain(tidal_mills(20), choosing_mills(40)):
            turn = draw.choice((0, 1, 2, 3, FAR_TURN))
            most = max(state[2] for state in all_reached(mill, contents, setting, turn, 6)[6])
            for time in range(3):
                works = some_works(draw, turn, 6, most)
                expected = plain_planned(mill, contents, setting, turn, works)
                self.is_planned(expected, mill, contents, setting, turn, works)

    def test_the_most_by_each_turn_and_one_more(self):
        for draw, mill, contents, setting in tidal_mills(30):
            turn = draw.choice((0, 1, 2, 3, FAR_TURN))
            for turns, states in enumerate(all_reached(mill, contents, setting, turn, 5)):
                ground, moves = best_of(states)
                if turns > 0 and ground > 0:
                    self.is_planned((ground, moves), mill, contents, setting, turn, [(ground, turn + turns)])
                if turns > 0:
                    self.is_planned(("NoTime", turn + turns, ground), mill, contents, setting, turn,
                                    [(ground + 1, turn + turns)])


class TestSoonest(Asking):
    def is_soonest(self, told, mill, contents, setting, turn, amount, last):
        self.tells(told, soonest, mill, contents, setting, turn, amount, last)
        self.assertEqual(plain_soonest(mill, contents, setting, turn, amount, last), told)

    def test_an_amount_of_0_is_there_at_the_turn_itself(self):
        for turn in (0, 1, FAR_TURN):
            for last in (turn, turn + 1, turn + 40):
                self.is_soonest(turn, BARE, (2,), (), turn, 0, last)
                self.is_soonest(turn, DRAINING, (2,), (), turn, 0, last)

    def test_the_most_ahead_of_each_turn_and_one_more(self):
        for turn in (0, 5, FAR_TURN):
            for number, amount in enumerate((0, 7, 14, 21)):
                self.is_soonest(turn + number, DRAINING, (3,), (), turn, amount, turn + 9)
                self.is_soonest(turn + number + 1 if number < 3 else None, DRAINING, (3,), (), turn, amount + 1,
                                turn + 9)

    def test_up_to_the_last_turn(self):
        self.is_soonest(2, DRAINING, (3,), (), 0, 14, 2)
        self.is_soonest(None, DRAINING, (3,), (), 0, 14, 1)
        self.is_soonest(None, DRAINING, (3,), (), 0, 1, 0)
        self.is_soonest(1, DRAINING, (3,), (), 0, 1, 1)

    def test_a_last_turn_that_is_the_turn_itself(self):
        for turn in (0, 9, FAR_TURN):
            self.is_soonest(turn, TIDES, (3,), SHUT, turn, 0, turn)
            self.is_soonest(None, TIDES, (3,), SHUT, turn, 1, turn)

    def test_never(self):
        for mill, setting in ((BARE, ()), (FILLING, SHUT)):
            self.is_soonest(None, mill, (2,), setting, 0, 1, 40)
        self.is_soonest(None, DRAINING, (3,), (), 0, 22, 40)
        self.tells(None, soonest, DRAINING, (3,), (), 0, FAR, 40)
        self.tells(None, soonest, DRAINING, (3,), (), FAR_TURN, MOST_AMOUNT, FAR_TURN + 40)

    def test_the_tide_counts(self):
        self.is_soonest(2, TIDES, (1,), SHUT, 0, 5, 40)
        self.is_soonest(2, TIDES, (1,), SHUT, 1, 5, 40)
        self.is_soonest(4, TIDES, (1,), SHUT, 2, 1, 40)
        self.is_soonest(FAR_TURN + 4, TIDES, (1,), SHUT, FAR_TURN, 6, FAR_TURN + 4)
        self.is_soonest(None, TIDES, (1,), SHUT, FAR_TURN, 6, FAR_TURN + 3)

    def test_forty_turns(self):
        for turn in (0, 1, FAR_TURN):
            end = turn + 40 if turn != 1 else turn + 39
            self.is_soonest(end, TIDES, (1,), SHUT, turn, 100, turn + 40)
            self.is_soonest(None, TIDES, (1,), SHUT, turn, 101, turn + 40)

    def test_from_an_open_and_from_a_shut_gate(self):
        for setting in (OPEN, SHUT):
            self.is_soonest(2, TIDES, (1,), setting, 0, 5, 9)

    def test_over_many_mills(self):
        found = 0
        for draw, mill, contents, setting in itertools.chain(bounded_mills(40, 300), tidal_mills(40)):
            turn = draw.choice((0, 1, 2, 3, FAR_TURN))
            mosts = [max(state[2] for state in states) for states in all_reached(mill, contents, setting, turn, 5)]
            for amount in sorted({most + more for most in mosts for more in (0, 1)}):
                for last in (turn, turn + 2, turn + 5):
                    fits = [turn + number for number, most in enumerate(mosts) if most >= amount]
                    told = fits[0] if fits and fits[0] <= last else None
                    self.tells(told, soonest, mill, contents, setting, turn, amount, last)
                    found += told is not None and told > turn
        self.assertGreater(found, 50)


class TestNoTime(Asking):
    def test_it_is_under_no_other_class_but_the_base(self):
        with self.assertRaises(MillError) as caught:
            planned(DRAINING, (3,), (), 0, [(8, 1)])
        for other in (NoContent, NoLine, NoMill):
            self.assertNotIsInstance(caught.exception, other)
        self.assertIs(type(caught.exception), NoTime)
        self.assertEqual([type(caught.exception.due), type(caught.exception.most)], [int, int])

    def test_what_is_refused_changes_nothing(self):
        before = repr(planned(DRAINING, (3,), (), 0, [(7, 1)]))
        works = [(99, 2), (7, 1)]
        with self.assertRaises(NoTime):
            planned(DRAINING, (3,), (), 0, works)
        self.assertEqual(works, [(99, 2), (7, 1)])
        self.assertEqual(repr(planned(DRAINING, (3,), (), 0, [(7, 1)])), before)


class TestWhatIsToldIsTheAskersOwn(Asking):
    def test_the_dues_may_be_changed_and_are_told_anew(self):
        for works in ([], [(5, 3)], [(5, 3), (2, 4)]):
            first = dues(works)
            before = repr(first)
            second = dues(works)
            self.assertIsNot(first, works)
            second.append("rubbish")
            second.reverse()
            self.assertEqual(repr(first), before)
            first.clear()
            self.assertEqual(repr(dues(works)), before)

    def test_the_plan_may_be_changed_and_is_told_anew(self):
        for works in ([], [(5, 2)], [(5, 2), (5, 6)]):
            first = planned(TIDES, (1,), SHUT, 0, works)
            before = repr(first)
            second = planned(TIDES, (1,), SHUT, 0, works)
            self.assertIsNot(first[2], works)
            second[2].append("rubbish")
            second[2].reverse()
            self.assertEqual(repr(first), before)
            first[2].clear()
            self.assertEqual(repr(planned(TIDES, (1,), SHUT, 0, works)), before)

    def test_the_works_may_be_changed_behind_the_asking(self):
        works = [(5, 2), (5, 6)]
        told = planned(TIDES, (1,), SHUT, 0, works)
        listed = dues(works)
        before = repr((told, listed))
        works.clear()
        self.assertEqual(repr((told, listed)), before)

    def test_other_questions_between_change_nothing(self):
        first = planned(TIDES, (1,), SHUT, 0, [(5, 2), (5, 6)])
        before = repr(first)
        for works in ([(1, 3)], [(99, 3)], []):
            try:
                planned(TIDES, (2,), OPEN, 1, works)
            except NoTime:
                pass
            soonest(TIDES, (1,), SHUT, 0, 30, 12)
        self.assertEqual(repr(first), before)
        self.assertEqual(repr(planned(TIDES, (1,), SHUT, 0, [(5, 2), (5, 6)])), before)

    def test_the_kinds_of_what_is_told(self):
        told = planned(TIDES, (1,), SHUT, 0, [(5, 2), (5, 6)])
        self.assertEqual([type(told)] + [type(part) for part in told], [tuple, int, int, list])
        self.assertEqual([type(due) for due in dues([(5, 2), (5, 6)])], [tuple, tuple])
        self.assertIs(type(soonest(TIDES, (1,), SHUT, 0, 0, 0)), int)


if __name__ == "__main__":
    unittest.main()
