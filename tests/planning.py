"""Small mills for layers, plans and works, and how a plan that is told is held against its own run."""

from asking import Asking
from plain_plans import ground_and_moves

SEA = -1
FAR_TURN = 10 ** 11
POND = ("a", 1, 0, 3)
BARE = ((0, ()), (POND,), (), ())
# The sea stands above the pond's half, and one bucket comes in by a turn.
FILLING = ((2, ()), (POND,), ((SEA, 0, 0, 1),), ())
# The sea stands far below the pond, and its wheel takes one bucket and grinds seven.
DRAINING = ((-5, ()), (POND,), (), ((0, SEA, 1, 1, 7),))
# At even turns the sea fills the pond through the gate, at odd ones the wheel can turn.
TIDES = ((0, ((0, (3, -3)),)), (POND,), ((SEA, 0, 0, 2),), ((0, SEA, 2, 1, 5),))
# There is water for one wheel once: the weak one can turn at any turn, the strong one at each third turn.
CHOICE = ((0, ((0, (0, 0, -5)),)), (("a", 1, 0, 2),), (), ((0, SEA, 1, 2, 3), (0, SEA, 6, 2, 10)))
# Just as large as is promised.
LARGE = (
    (0, ((0, (4, -4, 2)), (0, (1, 2, -3, 4)))),
    (("a", 3, -2, 1), ("b", 4, -3, 3)),
    ((SEA, 0, -5, 4), (0, 1, -5, 3), (1, SEA, -4, 5)),
    ((0, SEA, 1, 2, 5), (0, 1, 1, 1, 2), (1, SEA, 1, 3, 4)),
)
OPEN = (True,)
SHUT = (False,)


class Planning(Asking):
    def is_plan(self, mill, plan, turns):
        self.assertIs(type(plan), list)
        self.assertEqual(len(plan), turns)
        for step in plan:
            self.assertEqual([type(part) for part in step], [tuple, tuple])
            setting, running = step
            self.assertEqual([type(opened) for opened in setting], [bool] * len(mill[2]))
            self.assertEqual([type(let_run) for let_run in running], [bool] * len(mill[3]))

    def plans(self, expected, turns, function, mill, contents, setting, turn, more):
        # Told is so much ground with so many moves, and a plan of so many turns that does just that when it is run.
        ground, moves, plan = self.ask(function, mill, contents, setting, turn, more)
        self.assertEqual(repr((ground, moves)), repr(expected))
        self.is_plan(mill, plan, turns)
        grounds, moved = ground_and_moves(mill, contents, setting, turn, plan)
        self.assertEqual((grounds[-1], moved), expected)
        return grounds
