"""Point 15, and what points 2 and 4 say of one turn."""

import itertools
import unittest

from asking import LAST_TURN, Asking
from plain import height, moved, plain_turned, small_mills, stands_right, truths
from tidepond.turns import turned

SEA = -1
PONDS = (("a", 10, 0, 10), ("b", 10, 0, 10), ("c", 10, 0, 10))
# The sea fills a, which fills b, which fills c.
GATES = ((SEA, 0, 0, 30), (0, 1, 0, 20), (1, 2, 0, 10))
# c grinds to b, b to a, a to the sea.
WHEELS = ((2, 1, 1, 10, 100), (1, 0, 1, 10, 20), (0, SEA, 1, 10, 3))
FILLING = ((9, ()), PONDS, GATES, ())
GRINDING = ((0, ()), PONDS, (), WHEELS)
ALL = (True, True, True)
NONE = (False, False, False)


class Turning(Asking):
    def turns(self, told, mill, contents, turn, setting, running):
        self.tells(told, turned, mill, contents, turn, setting, running)
        self.assertEqual(plain_turned(mill, contents, turn, setting, running), told)


class TestGates(Turning):
    def test_shut_gates_do_nothing(self):
        for contents in ((0, 0, 0), (50, 20, 90), (100, 100, 100)):
            self.turns((contents, [], 0), FILLING, contents, 0, NONE, ())

    def test_one_open_gate(self):
        self.turns(((30, 0, 0), [("gate", 0, SEA, 0, 30)], 0), FILLING, (0, 0, 0), 0, (True, False, False), ())
        self.turns(((30, 20, 0), [("gate", 1, 0, 1, 20)], 0), FILLING, (50, 0, 0), 0, (False, True, False), ())
        self.turns(((0, 40, 10), [("gate", 2, 1, 2, 10)], 0), FILLING, (0, 50, 0), 0, (False, False, True), ())

    def test_each_gate_with_what_those_ahead_of_it_left(self):
        log = [("gate", 0, SEA, 0, 30), ("gate", 1, 0, 1, 15), ("gate", 2, 1, 2, 7)]
        self.turns(((15, 8, 7), log, 0), FILLING, (0, 0, 0), 0, ALL, ())

    def test_a_gate_between_shut_ones(self):
        log = [("gate", 0, SEA, 0, 30), ("gate", 2, 1, 2, 10)]
        self.turns(((30, 30, 10), log, 0), FILLING, (0, 40, 0), 0, (True, False, True), ())

    def test_gates_in_the_order_of_their_numbers(self):
        backward = ((9, ()), PONDS, GATES[::-1], ())
        self.turns(((30, 0, 0), [("gate", 2, SEA, 0, 30)], 0), backward, (0, 0, 0), 0, ALL, ())

    def test_the_same_gate_twice(self):
        twice = ((9, ()), PONDS, (GATES[0], (0, SEA, 0, 30), GATES[0]), ())
        log = [("gate", 0, SEA, 0, 30), ("gate", 1, SEA, 0, 30), ("gate", 2, SEA, 0, 30)]
        self.turns(((90, 0, 0), log, 0), twice, (0, 0, 0), 0, ALL, ())
        self.turns(((90, 0, 0), log[:1] + [("gate", 1, SEA, 0, 5)], 0), twice, (55, 0, 0), 0, ALL, ())

    def test_an_open_gate_through_which_nothing_passes_has_no_row(self):
        log = [("gate", 0, SEA, 0, 5)]
        self.turns(((90, 90, 90), log, 0), FILLING, (85, 90, 90), 0, ALL, ())
        self.turns(((90, 90, 90), [], 0), FILLING, (90, 90, 90), 0, ALL, ())

    def test_water_goes_to_the_first_side_too(self):
        log = [("gate", 0, 0, SEA, 10), ("gate", 1, 1, 0, 5), ("gate", 2, 2, 1, 2)]
        self.turns(((95, 97, 98), log, 0), FILLING, (100, 100, 100), 0, ALL, ())

    def test_the_sea_is_as_high_as_at_this_turn_all_the_while(self):
        mill = ((0, ((0, (9, 2, 5)),)), PONDS, ((SEA, 0, 0, 1000), (SEA, 1, 0, 1000)), ())
        for turn, at in ((0, 90), (1, 20), (2, 50), (3, 90), (LAST_TURN, 20)):
            log = [("gate", 0, SEA, 0, at), ("gate", 1, SEA, 1, at)]
            self.turns(((at, at, 7), log, 0), mill, (0, 0, 7), turn, (True, True), ())


class TestWheels(Turning):
    def test_wheels_that_are_not_let_run_do_nothing(self):
        for contents in ((0, 0, 0), (50, 20, 90), (100, 100, 100)):
            self.turns((contents, [], 0), GRINDING, contents, 0, (), NONE)

    def test_one_wheel(self):
        self.turns(((50, 60, 60), [("wheel", 0)], 100), GRINDING, (50, 50, 70), 0, (), (True, False, False))
        self.turns(((60, 60, 50), [("wheel", 1)], 20), GRINDING, (50, 70, 50), 0, (), (False, True, False))
        self.turns(((40, 50, 50), [("wheel", 2)], 3), GRINDING, (50, 50, 50), 0, (), (False, False, True))

    def test_each_wheel_with_what_those_ahead_of_it_left(self):
        # At first b is as high as a, and a as high as the sea: only what comes from ahead lets them turn.
        log = [("wheel", 0), ("wheel", 1), ("wheel", 2)]
        self.turns(((0, 0, 10), log, 123), GRINDING, (0, 0, 20), 0, (), ALL)
        self.turns(((0, 0, 20), [], 0), GRINDING, (0, 0, 20), 0, (), (False, True, True))
        self.turns(((0, 10, 10), [("wheel", 0)], 100), GRINDING, (0, 0, 20), 0, (), (True, False, True))

    def test_wheels_in_the_order_of_their_numbers(self):
        backward = ((0, ()), PONDS, (), WHEELS[::-1])
        self.turns(((0, 10, 10), [("wheel", 2)], 100), backward, (0, 0, 20), 0, (), ALL)

    def test_a_wheel_that_cannot_turn_has_no_row_and_grinds_nothing(self):
        # b stands too low for its wheel, and the others turn.
        self.turns(((50, 30, 50), [("wheel", 0), ("wheel", 2)], 103), GRINDING, (60, 20, 60), 0, (), ALL)
        self.turns(((0, 0, 0), [], 0), GRINDING, (0, 0, 0), 0, (), ALL)

    def test_a_wheel_ahead_takes_what_one_behind_needs(self):
        mill = ((-50, ()), PONDS[:1], (), ((0, SEA, 1, 6, 5), (0, SEA, 1, 6, 7), (0, SEA, 1, 2, 11)))
        self.turns(((2,), [("wheel", 0), ("wheel", 2)], 16), mill, (10,), 0, (), ALL)
        self.turns(((2,), [("wheel", 1), ("wheel", 2)], 18), mill, (10,), 0, (), (False, True, True))
        self.turns(((0,), [("wheel", 0), ("wheel", 1)], 12), mill, (12,), 0, (), ALL)

    def test_a_wheel_ahead_fills_the_tail_of_one_behind(self):
        mill = ((0, ()), (("a", 10, 20, 30), ("b", 5, 0, 2)), (), ((0, 1, 1, 6, 5), (0, 1, 1, 6, 7)))
        self.turns(((94, 6), [("wheel", 0)], 5), mill, (100, 0), 0, (), (True, True))
        self.turns(((94, 6), [("wheel", 1)], 7), mill, (100, 0), 0, (), (False, True))

    def test_a_wheel_turns_once_in_a_turn(self):
        self.turns(((90, 0, 0), [("wheel", 2)], 3), GRINDING, (100, 0, 0), 0, (), ALL)

    def test_the_greatest_grinds(self):
        mill = ((-1000, ()), PONDS[:1], (), ((0, SEA, 1, 1, 1000),) * 3)
        told = ((97,), [("wheel", 0), ("wheel", 1), ("wheel", 2)], 3000)
        self.turns(told, mill, (100,), LAST_TURN, (), ALL)

    def test_the_tide_counts(self):
        mill = ((0, ((0, (5, 4, 3)),)), (("a", 2, 0, 10),), (), ((0, SEA, 4, 2, 9),))
        for turn in (1, 2, LAST_TURN):
            self.turns(((14,), [("wheel", 0)], 9), mill, (16,), turn, (), (True,))
        for turn in (0, 3, LAST_TURN - 1):
            self.turns(((16,), [], 0), mill, (16,), turn, (), (True,))


class TestGatesAndWheels(Turning):
    def test_neither_gates_nor_wheels(self):
        mill = ((0, ()), PONDS, (), ())
        for turn in (0, 7, LAST_TURN):
            self.turns(((5, 6, 7), [], 0), mill, (5, 6, 7), turn, (), ())

    def test_gates_come_ahead_of_wheels(self):
        # Only behind the gate is the drink there, and the gate would let in more behind the wheel.
        mill = ((3, ()), (("a", 10, 0, 10), ("b", 10, -9, 0)), ((SEA, 0, 0, 1000),), ((0, 1, 1, 20, 4),))
        log = [("gate", 0, SEA, 0, 30), ("wheel", 0)]
        self.turns(((10, 20), log, 4), mill, (0, 0), 0, (True,), (True,))
        self.turns(((30, 0), log[:1], 0), mill, (0, 0), 0, (True,), (False,))
        self.turns(((0, 0), [], 0), mill, (0, 0), 0, (False,), (True,))

    def test_a_gate_takes_the_fall_that_a_wheel_needs(self):
        mill = ((0, ()), PONDS[:2], ((0, 1, 0, 20),), ((0, 1, 4, 5, 9),))
        self.turns(((45, 5), [("wheel", 0)], 9), mill, (50, 0), 0, (False,), (True,))
        self.turns(((30, 20), [("gate", 0, 0, 1, 20)], 0), mill, (50, 0), 0, (True,), (True,))

    def test_every_setting_and_running(self):
        mill = ((4, ()), PONDS, GATES, WHEELS)
        for setting, running in itertools.product(itertools.product((False, True), repeat=3), repeat=2):
            for contents in ((0, 0, 0), (50, 40, 70), (100, 100, 100), (33, 66, 10)):
                told = plain_turned(mill, contents, 0, setting, running)
                self.turns(told, mill, contents, 0, setting, running)


class TestManyTurns(Turning):
    def test_over_many_small_mills(self):
        rows = {"gate": 0, "wheel": 0}
        for draw, mill, contents in small_mills(600):
            first = draw.choice((0, 1, LAST_TURN - 12))
            for turn in range(first, first + 12):
                setting = truths(draw, len(mill[2]))
                running = truths(draw, len(mill[3]))
                told = plain_turned(mill, contents, turn, setting, running)
                self.turns(told, mill, contents, turn, setting, running)
                contents = self.replayed(mill, contents, turn, setting, running)
                for row in told[1]:
                    rows[row[0]] += 1
        self.assertGreater(min(rows.values()), 100)

    def replayed(self, mill, contents, turn, setting, running):
        behind, log, ground = self.ask(turned, mill, contents, turn, setting, running)
        came = [0 for pond in mill[1]] + [0]
        went = [0 for pond in mill[1]] + [0]
        stands = contents
        for row in log:
            giving, taking, buckets = self.row_of(mill, stands, turn, setting, running, row)
            came[taking] += buckets
            went[giving] += buckets
            stands = moved(stands, giving, taking, buckets)
            self.assertTrue(stands_right(mill, stands))
        numbers = [("gate wheel".split().index(row[0]), row[1]) for row in log]
        self.assertEqual(numbers, sorted(set(numbers)))
        self.assertEqual(behind, tuple(content + came[pond] - went[pond] for pond, content in enumerate(contents)))
        self.assertEqual(ground, sum(mill[3][row[1]][4] for row in log if row[0] == "wheel"))
        return behind

    def row_of(self, mill, stands, turn, setting, running, row):
        if row[0] == "wheel":
            pond, tail, fall, drink, grind = mill[3][row[1]]
            self.assertTrue(running[row[1]])
            self.assertGreaterEqual(height(mill, stands, pond, turn) - height(mill, stands, tail, turn), fall)
            return pond, tail, drink
        word, gate, giving, taking, buckets = row
        behind = moved(stands, giving, taking, buckets)
        self.assertTrue(setting[gate])
        self.assertEqual({giving, taking}, set(mill[2][gate][:2]))
        self.assertTrue(1 <= buckets <= mill[2][gate][3])
        self.assertGreater(height(mill, stands, giving, turn), height(mill, stands, taking, turn))
        self.assertGreaterEqual(height(mill, behind, giving, turn), height(mill, behind, taking, turn))
        self.assertGreaterEqual(height(mill, behind, giving, turn), mill[2][gate][2])
        return giving, taking, buckets


class TestWhatIsToldIsTheAskersOwn(Turning):
    def test_the_log_may_be_changed_and_is_told_anew(self):
        for mill, setting, running in ((FILLING, ALL, ()), (FILLING, NONE, ()), (GRINDING, (), ALL)):
            first = turned(mill, (0, 0, 20), 0, setting, running)
            before = repr(first)
            second = turned(mill, (0, 0, 20), 0, setting, running)
            self.assertIsNot(first[1], second[1])
            second[1].append("rubbish")
            second[1].reverse()
            self.assertEqual(repr(first), before)
            first[1].clear()
            self.assertEqual(repr(turned(mill, (0, 0, 20), 0, setting, running)), before)

    def test_other_questions_between_change_nothing(self):
        first = turned(FILLING, (0, 0, 0), 0, ALL, ())
        before = repr(first)
        for contents in itertools.product((0, 40, 100), repeat=3):
            turned(FILLING, contents, 3, ALL, ())
            turned(GRINDING, contents, 3, (), ALL)
        self.assertEqual(repr(first), before)
        self.assertEqual(repr(turned(FILLING, (0, 0, 0), 0, ALL, ())), before)

    def test_the_kinds_of_what_is_told(self):
        mill = ((4, ()), PONDS, GATES, WHEELS)
        contents, log, ground = self.ask(turned, mill, (50, 40, 70), 0, ALL, ALL)
        self.assertEqual([type(contents), type(log), type(ground)], [tuple, list, int])
        for row in log:
            self.assertIs(type(row), tuple)
            self.assertEqual([type(word) for word in row], [str] + [int] * (len(row) - 1))
            self.assertEqual(len(row), {"gate": 5, "wheel": 2}[row[0]])


if __name__ == "__main__":
    unittest.main()
