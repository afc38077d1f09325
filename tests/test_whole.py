"""Point 4: what is promised of the whole, by the program's own functions side by side, and of a desk."""

import itertools
import unittest

from plain import plan_of
from plain_lines import plain_lines
from plain_plans import bounded_mills, choosing_mills, tidal_mills
from planning import FAR_TURN, LARGE
from tidepond.desk import Desk
from tidepond.errors import NoTime
from tidepond.layers import layers, next_layer
from tidepond.levels import at_least, fall_of, side_level
from tidepond.mills import holds, right_mill
from tidepond.most import most
from tidepond.reading import read
from tidepond.runs import balance, moves_of, run
from tidepond.seas import round_of, sea_at
from tidepond.turns import turned
from tidepond.works import dues, planned, soonest


def some_mills():
    return itertools.chain(bounded_mills(80, 2000), tidal_mills(40), choosing_mills(20))


class TestPlans(unittest.TestCase):
    def is_run(self, mill, contents, setting, turn, told):
        # The plan grinds so much with so many moves, and every bucket is accounted for, turn by turn.
        ground, moves, plan = told
        done = run(mill, contents, turn, plan)
        self.assertEqual((sum(step[2] for step in done), moves_of(setting, plan)), (ground, moves))
        for turns in range(1, len(done) + 1):
            for pond, first in enumerate(contents):
                came, went = balance(mill, pond, [step[1] for step in done[:turns]])
                content = done[turns - 1][0][pond]
                self.assertEqual(content, first + came - went)
                self.assertTrue(0 <= content <= holds(mill[1][pond]))
        return [0, *itertools.accumulate(step[2] for step in done)]

    def test_the_most_is_ground_by_its_plan_and_shown_by_the_layers(self):
        for draw, mill, contents, setting in some_mills():
            turn = draw.choice((0, 1, 5, FAR_TURN))
            told = layers(mill, contents, setting, turn, 6)
            for turns, layer in enumerate(told):
                ground, moves, plan = most(mill, contents, setting, turn, turns)
                self.is_run(mill, contents, setting, turn, (ground, moves, plan))
                self.assertEqual(len(plan), turns)
                self.assertEqual(max((state[2], -state[3]) for state in layer), (ground, -moves))

    def test_no_random_plan_does_better(self):
        for draw, mill, contents, setting in some_mills():
            ground, moves, plan = most(mill, contents, setting, 2, 9)
            for time in range(30):
                other = plan_of(draw, mill, 9)
                found = sum(step[2] for step in run(mill, contents, 2, other))
                self.assertGreaterEqual((ground, -moves), (found, -moves_of(setting, other)))

    def test_layers_lead_on_from_one_another(self):
        for draw, mill, contents, setting in some_mills():
            for turn, layer in enumerate(layers(mill, contents, setting, 3, 4)[:-1], start=3):
                pairs = {state[:2]: state[2:] for state in next_layer(mill, turn, layer)}
                for start, ahead, ground, moves in draw.sample(layer, min(5, len(layer))):
                    plan = plan_of(draw, mill, 1)
                    behind, log, more = turned(mill, start, turn, *plan[0])
                    best, fewest = pairs[(behind, plan[0][0])]
                    self.assertGreaterEqual((best, -fewest), (ground + more, -moves - moves_of(ahead, plan)))

    def test_works_are_met_by_their_plan_or_refused(self):
        told = {"met": 0, "refused": 0}
        for draw, mill, contents, setting in some_mills():
            turn = draw.choice((0, 1, 5, FAR_TURN))
            works = [(draw.randint(1, 6), turn + draw.randint(1, 7)) for work in range(draw.randint(1, 3))]
            try:
                plan = planned(mill, contents, setting, turn, works)
            except NoTime as refusal:
                self.is_refused(mill, contents, setting, turn, works, refusal)
                told["refused"] += 1
                continue
            grounds = self.is_run(mill, contents, setting, turn, plan)
            for due, amount in dues(works):
                self.assertGreaterEqual(grounds[due - turn], amount)
                self.assertLessEqual(soonest(mill, contents, setting, turn, amount, due), due)
            told["met"] += 1
        self.assertGreater(min(told.values()), 15)

    def is_refused(self, mill, contents, setting, turn, works, refusal):
        # The earlier works can be met, with no more than that by the due, and all of them with just that cannot.
        earlier = [work for work in works if work[1] < refusal.due]
        needed = dict(dues(works))[refusal.due]
        self.assertLess(refusal.most, needed)
        met = sum(amount for amount, due in earlier)
        if refusal.most > met:
            just = planned(mill, contents, setting, turn, earlier + [(refusal.most - met, refusal.due)])
            self.assertEqual(just[0], refusal.most)
        with self.assertRaises(NoTime):
            planned(mill, contents, setting, turn, earlier + [(refusal.most - met + 1, refusal.due)])


class TestTheSea(unittest.TestCase):
    def test_it_comes_round_and_no_sooner(self):
        for draw, mill, contents, setting in some_mills():
            turns = round_of(mill[0])
            heights = [sea_at(mill[0], turn) for turn in range(3 * turns)]
            self.assertEqual(heights[turns:], heights[:-turns])
            for less in range(1, turns):
                self.assertNotEqual(heights[less:turns + less], heights[:turns])


class TestADesk(unittest.TestCase):
    def row_of(self, mill, names, row):
        words = row.split(" ")
        if words[0] == "wheel":
            pond, tail, fall, drink, grind = mill[3][int(words[1])]
            return pond, tail, drink, grind
        return names.index(words[2]), names.index(words[3]), int(words[4]), 0

    def test_bucket_by_bucket(self):
        for draw, mill, contents, setting in some_mills():
            desk = Desk(plain_lines(mill, contents))
            names = [pond[0] for pond in mill[1]] + ["sea"]
            stands, ground = [*contents, 0], 0
            for turn in range(8):
                gates = "".join(draw.choice("os") for gate in mill[2]) or "-"
                wheels = "".join(draw.choice("rs") for wheel in mill[3]) or "-"
                answer = desk.say(f"go {gates} {wheels}")
                for row in answer.split(", ") if answer != "none" else []:
                    giving, taking, buckets, more = self.row_of(mill, names, row)
                    stands[giving] -= buckets
                    stands[taking] += buckets
                    ground += more
                told, behind = read(desk.say("show").split(", "))
                self.assertEqual(told, mill)
                self.assertEqual(list(behind), stands[:-1])
                self.assertEqual(desk.say("turn"), f"{turn + 1} ground {ground}")

    def test_the_most_done_at_once_and_turn_by_turn(self):
        mills = [(mill, contents) for draw, mill, contents, setting in tidal_mills(20)]
        for mill, contents in mills + [(LARGE, (4, 9))]:
            done, stepped = Desk(plain_lines(mill, contents)), Desk(plain_lines(mill, contents))
            shut = tuple(False for gate in mill[2])
            ground, moves, plan = most(mill, contents, shut, 0, 12)
            self.assertEqual(done.say("do 12"), f"ground {ground} moves {moves}")
            for setting, running in plan:
                gates = "".join("so"[opened] for opened in setting)
                stepped.say(f"go {gates} " + "".join("sr"[let_run] for let_run in running))
            self.assertEqual(stepped.say("turn"), f"12 ground {ground}")
            self.assertEqual(done.say("turn"), stepped.say("turn"))

    def test_the_rows_keep_to_the_falls(self):
        for draw, mill, contents, setting in some_mills():
            right_mill(mill)
            for turn in range(6):
                gates = tuple(draw.random() < 0.6 for gate in mill[2])
                behind, log, ground = turned(mill, contents, turn, gates, tuple(True for wheel in mill[3]))
                for row in log[:1]:
                    self.first_row_keeps(mill, contents, turn, row)
                contents = behind

    def first_row_keeps(self, mill, contents, turn, row):
        # Only the first row is reckoned from the contents ahead of the turn.
        if row[0] == "wheel":
            pond, tail, fall, drink, grind = mill[3][row[1]]
            self.assertTrue(at_least(fall_of(mill, contents, pond, tail, turn), (fall, 1)))
            return
        gate, giving, taking, buckets = row[1:]
        self.assertGreater(fall_of(mill, contents, giving, taking, turn)[0], 0)
        self.assertFalse(at_least((mill[2][gate][2], 1), side_level(mill, contents, giving, turn)))


if __name__ == "__main__":
    unittest.main()
