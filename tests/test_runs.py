"""Points 16 and 17, and what points 2 and 4 say of turn by turn."""

import itertools
import unittest

from asking import FAR, LAST_TURN, Asking
from plain import plain_run, plan_of, small_mills, stands_right
from tidepond.runs import balance, moves_of, run
from tidepond.seas import round_of

SEA = -1
PONDS = (("a", 10, 0, 10), ("b", 10, 0, 10), ("c", 10, 0, 10))
GATES = ((SEA, 0, 0, 30), (0, 1, 0, 20), (1, 2, 0, 10))
WHEELS = ((2, 1, 1, 10, 100), (1, 0, 1, 10, 20), (0, SEA, 1, 10, 3))
# The sea is high at even turns and low at odd ones.
TIDES = ((0, ((0, (9, 0)),)), PONDS, GATES, WHEELS)
ALL = (True, True, True)
NONE = (False, False, False)


def gates(word):
    return tuple(sign == "o" for sign in word)


def moved_in(setting, plan):
    settings = [setting] + [step[0] for step in plan]
    return sum(one ^ other for ahead, behind in zip(settings, settings[1:]) for one, other in zip(ahead, behind))


def sums_of(mill, logs):
    came = {side: 0 for side in range(-1, len(mill[1]))}
    went = dict(came)
    for row in itertools.chain(*logs):
        if row[0] == "wheel":
            giving, taking, fall, buckets, grind = mill[3][row[1]]
        else:
            giving, taking, buckets = row[2:]
        came[taking] += buckets
        went[giving] += buckets
    return came, went


class TestRun(Asking):
    def runs(self, told, mill, contents, turn, plan):
        self.tells(told, run, mill, contents, turn, plan)
        self.assertEqual(plain_run(mill, contents, turn, plan), told)

    def test_a_plan_of_no_turns(self):
        for turn in (0, 1, LAST_TURN):
            self.runs([], TIDES, (0, 50, 100), turn, [])
        self.runs([], ((0, ()), PONDS[:1], (), ()), (7,), 0, [])

    def test_a_plan_of_one_turn(self):
        one = ((30, 0, 0), [("gate", 0, SEA, 0, 30)], 0)
        self.runs([one], TIDES, (0, 0, 0), 0, [((True, False, False), NONE)])
        two = ((20, 0, 0), [("wheel", 2)], 3)
        self.runs([two], TIDES, (30, 0, 0), 1, [(NONE, ALL)])

    def test_each_turn_with_the_contents_that_the_one_ahead_left_and_at_its_own_turn(self):
        plan = [((True, False, False), ALL), (NONE, ALL), (NONE, NONE), ((True, False, False), ALL), (NONE, ALL)]
        told = [
            ((30, 0, 0), [("gate", 0, SEA, 0, 30)], 0),
            ((20, 0, 0), [("wheel", 2)], 3),
            ((20, 0, 0), [], 0),
            # At this turn the sea is low: the gate lets water out, and the wheel has no fall.
            ((0, 0, 0), [("gate", 0, 0, SEA, 20)], 0),
            ((0, 0, 0), [], 0),
        ]
        self.runs(told, TIDES, (0, 0, 0), 0, plan)

    def test_from_the_turn_handed_in(self):
        plan = [((True, False, False), NONE)] * 3
        # At odd turns the sea takes, at even ones it gives.
        self.assertEqual([told[0][0] for told in run(TIDES, (40, 0, 0), 0, plan)], [70, 40, 70])
        self.assertEqual([told[0][0] for told in run(TIDES, (40, 0, 0), 1, plan)], [10, 40, 10])
        self.assertEqual([told[0][0] for told in run(TIDES, (40, 0, 0), LAST_TURN, plan)], [70, 40, 70])
        self.assertEqual([told[0][0] for told in run(TIDES, (40, 0, 0), LAST_TURN - 1, plan)], [10, 40, 10])

    def test_a_plan_of_many_turns(self):
        plan = [(ALL, ALL)] * 300
        told = plain_run(TIDES, (0, 0, 0), 0, plan)
        self.assertEqual(len(told), 300)
        self.runs(told, TIDES, (0, 0, 0), 0, plan)

    def test_no_gates(self):
        mill = ((0, ()), PONDS, (), WHEELS)
        told = [((0, 0, 10), [("wheel", 0), ("wheel", 1), ("wheel", 2)], 123), ((0, 10, 0), [("wheel", 0)], 100)]
        self.runs(told, mill, (0, 0, 20), 5, [((), ALL), ((), (True, False, True))])

    def test_no_wheels(self):
        mill = ((9, ()), PONDS, GATES, ())
        told = [((30, 0, 0), [("gate", 0, SEA, 0, 30)], 0), ((15, 15, 0), [("gate", 1, 0, 1, 15)], 0)]
        self.runs(told, mill, (0, 0, 0), 0, [((True, False, False), ()), ((False, True, False), ())])

    def test_neither_gates_nor_wheels(self):
        mill = ((9, ()), PONDS[:1], (), ())
        self.runs([((4,), [], 0)] * 3, mill, (4,), LAST_TURN, [((), ())] * 3)

    def test_over_many_small_mills(self):
        for draw, mill, contents in small_mills(400):
            turn = draw.choice((0, 1, 17, LAST_TURN - 10, LAST_TURN))
            plan = plan_of(draw, mill, draw.choice((1, 2, 9, 20)))
            self.runs(plain_run(mill, contents, turn, plan), mill, contents, turn, plan)

    def test_a_plan_cut_in_two_runs_alike(self):
        for draw, mill, contents in small_mills(60):
            plan = plan_of(draw, mill, 8)
            whole = run(mill, contents, 3, plan)
            first = run(mill, contents, 3, plan[:5])
            self.assertEqual(first + run(mill, first[-1][0], 8, plan[5:]), whole)

    def test_the_same_a_whole_number_of_rounds_later(self):
        for draw, mill, contents in small_mills(150):
            plan = plan_of(draw, mill, 9)
            turns = round_of(mill[0])
            told = run(mill, contents, 2, plan)
            for rounds in (1, 2, 5, LAST_TURN // turns - 3):
                self.assertEqual(run(mill, contents, 2 + rounds * turns, plan), told)


class TestTheWater(Asking):
    def test_no_pond_is_below_0_or_above_what_it_holds(self):
        for draw, mill, contents in small_mills(200):
            for behind, log, ground in run(mill, contents, 0, plan_of(draw, mill, 15)):
                self.assertTrue(stands_right(mill, behind))

    def test_what_stands_is_what_stood_and_what_came_less_what_went(self):
        moved = 0
        for draw, mill, contents in small_mills(200):
            told = run(mill, contents, 4, plan_of(draw, mill, 15))
            logs = [log for behind, log, ground in told]
            for turns in range(1, 16):
                came, went = sums_of(mill, logs[:turns])
                for pond, stands in enumerate(told[turns - 1][0]):
                    self.assertEqual(stands, contents[pond] + came[pond] - went[pond])
                    self.tells((came[pond], went[pond]), balance, mill, pond, logs[:turns])
                    moved += came[pond] + went[pond]
                # Water is neither made nor lost but at the sea.
                self.assertEqual(sum(told[turns - 1][0]), sum(contents) + went[SEA] - came[SEA])
        self.assertGreater(moved, 1000)

    def test_without_the_sea_water_stays_as_much(self):
        inland = ((0, ()), PONDS, ((0, 1, 0, 7), (1, 2, 0, 5), (2, 0, 0, 3)), ((0, 2, 1, 4, 9),))
        for contents in ((100, 0, 0), (0, 100, 3), (50, 60, 70), (0, 0, 0)):
            for behind, log, ground in self.ask(run, inland, contents, 0, [(ALL, (True,))] * 40):
                self.assertEqual(sum(behind), sum(contents))


class TestMoves(Asking):
    def moves(self, told, setting, *words):
        self.tells(told, moves_of, gates(setting), [(gates(word), (True,)) for word in words])

    def test_no_turns(self):
        for setting in ("", "o", "s", "oso", "ooo", "sss"):
            self.moves(0, setting)

    def test_the_first_turn_against_the_setting_handed_in(self):
        self.moves(0, "sss", "sss")
        self.moves(0, "oso", "oso")
        self.moves(1, "sss", "sos")
        self.moves(1, "ooo", "oos")
        self.moves(2, "oso", "sss")
        self.moves(3, "sos", "oso")

    def test_each_later_turn_against_the_one_ahead(self):
        self.moves(1, "sss", "oss", "oss")
        self.moves(2, "sss", "oss", "sss")
        self.moves(2, "sss", "oss", "oos")
        self.moves(6, "sss", "ooo", "sss")
        self.moves(4, "oo", "os", "so", "oo")
        # Against the setting handed in all along there would be more, or fewer.
        self.moves(3, "sss", "ooo", "ooo", "ooo")
        self.moves(9, "sss", "ooo", "sss", "ooo")

    def test_the_same_setting_several_turns_in_a_row(self):
        self.moves(0, "os", *["os"] * 40)
        self.moves(2, "so", *["os"] * 40)
        self.moves(3, "s", "s", "o", "o", "o", "s", "s", "o", "o")

    def test_one_gate(self):
        self.moves(5, "s", "o", "s", "o", "s", "o")
        self.moves(4, "o", "o", "s", "o", "s", "o")

    def test_wheels_do_not_count(self):
        plan = [((True,), (False, False)), ((True,), (True, True)), ((True,), (False, True))]
        self.tells(0, moves_of, (True,), plan)
        self.tells(1, moves_of, (False,), plan)
        self.tells(0, moves_of, (), [((), NONE), ((), ALL), ((), NONE)])

    def test_no_gates(self):
        self.tells(0, moves_of, (), [((), ())] * 5)

    def test_every_setting_behind_every_other(self):
        settings = list(itertools.product((False, True), repeat=3))
        for one, other, third in itertools.product(settings, repeat=3):
            plan = [(other, ()), (third, ())]
            self.tells(moved_in(one, plan), moves_of, one, plan)

    def test_a_plan_of_many_turns(self):
        self.moves(3000, "sss", *["ooo", "sss"] * 500)


class TestBalance(Asking):
    def test_no_logs(self):
        for pond in range(3):
            self.tells((0, 0), balance, TIDES, pond, [])

    def test_empty_logs(self):
        for pond in range(3):
            self.tells((0, 0), balance, TIDES, pond, [[]])
            self.tells((0, 0), balance, TIDES, pond, [[], [], []])

    def balances(self, told, *logs):
        for pond, row in enumerate(told):
            self.tells(row, balance, TIDES, pond, list(logs))

    def test_a_gate_either_way(self):
        self.balances([(0, 5), (5, 0), (0, 0)], [("gate", 1, 0, 1, 5)])
        self.balances([(5, 0), (0, 5), (0, 0)], [("gate", 1, 1, 0, 5)])
        self.balances([(3, 5), (5, 3), (0, 0)], [("gate", 1, 0, 1, 5)], [("gate", 1, 1, 0, 3)])

    def test_a_gate_by_the_sea(self):
        self.balances([(7, 0), (0, 0), (0, 0)], [("gate", 0, SEA, 0, 7)])
        self.balances([(0, 7), (0, 0), (0, 0)], [("gate", 0, 0, SEA, 7)])

    def test_a_wheel_into_a_pond(self):
        self.balances([(0, 0), (10, 0), (0, 10)], [("wheel", 0)])
        self.balances([(10, 0), (0, 10), (0, 0)], [("wheel", 1)])

    def test_a_wheel_into_the_sea(self):
        self.balances([(0, 10), (0, 0), (0, 0)], [("wheel", 2)])

    def test_a_wheel_counts_by_its_drink(self):
        # Fall, drink and grind all unlike, of the wheel by its own number.
        mill = ((0, ()), PONDS, ((0, 1, 0, 9),), ((0, 1, 2, 3, 4), (0, 1, 50, 60, 70), (1, SEA, 500, 600, 700)))
        for rows, told in (([("wheel", 0)], (3, 0)), ([("wheel", 1)], (60, 0)), ([("wheel", 2)], (0, 600))):
            self.tells(told, balance, mill, 1, [rows])
        self.tells((63, 600), balance, mill, 1, [[("wheel", 0), ("wheel", 1), ("wheel", 2)]])

    def test_a_pond_that_takes_and_gives_in_one_log(self):
        log = [("gate", 0, SEA, 0, 30), ("gate", 1, 0, 1, 15), ("gate", 2, 1, 2, 7), ("wheel", 1), ("wheel", 2)]
        self.balances([(40, 25), (15, 17), (7, 0)], log)
        self.balances([(80, 50), (30, 34), (14, 0)], log, [], log)

    def test_the_same_row_several_times(self):
        self.balances([(0, 20), (20, 0), (0, 0)], [("gate", 1, 0, 1, 5)] * 3, [("gate", 1, 0, 1, 5)])
        self.balances([(0, 40), (0, 0), (0, 0)], [("wheel", 2), ("wheel", 2)], [("wheel", 2)] * 2)

    def test_logs_that_no_run_made(self):
        # Wheels ahead of gates, more than a rate, more than a pond holds.
        self.balances([(FAR, 10), (0, 0), (0, FAR)], [("wheel", 2), ("gate", 2, 2, 0, FAR)])
        self.balances([(1, 0), (0, 0), (0, 1)], [("gate", 0, 2, 0, 1)])

    def test_the_kinds_of_what_is_told(self):
        for logs in ([], [[("gate", 1, 0, 1, 5)]], [[("wheel", 2)]]):
            told = balance(TIDES, 0, logs)
            self.assertEqual([type(told), type(told[0]), type(told[1])], [tuple, int, int])


class TestWhatIsToldIsTheAskersOwn(Asking):
    PLAN = [(ALL, ALL), (NONE, ALL), (NONE, NONE)]

    def test_the_kinds_of_what_is_told(self):
        told = run(TIDES, (40, 50, 60), 0, self.PLAN)
        self.assertIs(type(told), list)
        for step in told:
            self.assertEqual([type(part) for part in step], [tuple, list, int])
        self.assertIs(type(step), tuple)
        self.assertIs(type(moves_of(NONE, self.PLAN)), int)
        self.assertIs(type(moves_of(NONE, [])), int)

    def test_the_list_and_its_logs_may_be_changed_and_are_told_anew(self):
        first = run(TIDES, (40, 50, 60), 0, self.PLAN)
        before = repr(first)
        second = run(TIDES, (40, 50, 60), 0, self.PLAN)
        for contents, log, ground in second:
            log.append("rubbish")
            log.reverse()
        second.clear()
        self.assertEqual(repr(first), before)
        self.assertEqual(repr(run(TIDES, (40, 50, 60), 0, self.PLAN)), before)

    def test_each_log_is_a_list_of_its_own(self):
        for plan in ([(NONE, NONE)] * 3, self.PLAN):
            told = run(TIDES, (40, 50, 60), 0, plan)
            before = [repr(step) for step in told]
            told[0][1].append("rubbish")
            self.assertEqual([repr(step) for step in told[1:]], before[1:])

    def test_what_was_told_of_no_turns_may_be_changed(self):
        run(TIDES, (0, 0, 0), 0, []).append("rubbish")
        self.assertEqual(run(TIDES, (0, 0, 0), 0, []), [])

    def test_the_plan_may_be_changed_behind_the_run(self):
        plan = list(self.PLAN)
        told = run(TIDES, (40, 50, 60), 0, plan)
        before = repr(told)
        plan.clear()
        self.assertEqual(repr(told), before)

    def test_the_logs_of_a_run_stay_as_they_were(self):
        told = run(TIDES, (40, 50, 60), 0, self.PLAN)
        before = repr(told)
        logs = [step[1] for step in told]
        for pond in range(3):
            self.ask(balance, TIDES, pond, logs)
        self.assertEqual(repr(told), before)


if __name__ == "__main__":
    unittest.main()
