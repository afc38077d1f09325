"""Point 18, and what point 2 says of it."""

import unittest

from asking import Asking
from plain import small_mills
from tidepond.showing import shown
from written import CONTENTS, GREATEST_CONTENTS, GREATEST_LINES, GREATEST_MILL, LINES, MILL, SEA

BARE = ((0, ()), (("mere", 1, 0, 1),), (), ())


class TestShown(Asking):
    def test_a_mill_with_all_kinds_of_lines(self):
        self.tells(LINES, shown, MILL, CONTENTS)

    def test_no_rings_gates_or_wheels(self):
        self.tells(["tide 0", "pond mere 1 0 1 0"], shown, BARE, (0,))

    def test_each_kind_of_line_by_itself(self):
        sea, ponds, gates, wheels = MILL
        self.tells(LINES[:5], shown, (sea, ponds, (), ()), CONTENTS)
        self.tells(LINES[:1] + LINES[3:5], shown, ((-2, ()), ponds, (), ()), CONTENTS)
        self.tells(LINES[:1] + LINES[3:7], shown, ((-2, ()), ponds, gates, ()), CONTENTS)
        self.tells(LINES[:1] + LINES[3:5] + LINES[7:], shown, ((-2, ()), ponds, (), wheels), CONTENTS)

    def test_the_order_is_that_of_their_numbers(self):
        sea, ponds, gates, wheels = MILL
        mill = ((-2, sea[1][::-1]), ponds, gates[::-1], wheels[::-1])
        lines = [LINES[n] for n in (0, 2, 1, 3, 4, 6, 5, 8, 7)]
        self.tells(lines, shown, mill, CONTENTS)

    def test_contents_are_those_handed_in(self):
        for content in (0, 1, 9, 10, 99, 100):
            self.assertEqual(self.ask(shown, MILL, (content, 32))[3:5],
                             [f"pond mere 10 -5 5 {content}", "pond low 4 -6 2 32"])

    def test_every_pair_of_sides(self):
        ponds = (("a", 1, 0, 1), ("b", 1, 0, 1), ("c", 1, 0, 1))
        names = {SEA: "sea", 0: "a", 1: "b", 2: "c"}
        for one in names:
            for other in names:
                if one != other:
                    lines = shown(((0, ()), ponds, ((one, other, 0, 1),), ()), (0, 0, 0))
                    self.assertEqual(lines[-1], f"gate {names[one]} {names[other]} 0 1")
                if one not in (SEA, other):
                    lines = shown(((0, ()), ponds, (), ((one, other, 1, 1, 1),)), (0, 0, 0))
                    self.assertEqual(lines[-1], f"wheel {names[one]} {names[other]} 1 1 1")

    def test_numbers_below_0_and_0(self):
        mill = ((-1000, ((0, (-1, 0, -1000)),)), (("mere", 100, -1000, 0),), ((0, SEA, -1000, 1),), ())
        lines = ["tide -1000", "ring 0 -1 0 -1000", "pond mere 100 -1000 0 100000", "gate mere sea -1000 1"]
        self.tells(lines, shown, mill, (100000,))
        mill = ((0, ((0, (0, 0)),)), (("mere", 1, -1, 0),), ((SEA, 0, 0, 1),), ())
        self.tells(["tide 0", "ring 0 0 0", "pond mere 1 -1 0 0", "gate sea mere 0 1"], shown, mill, (0,))

    def test_the_greatest_numbers_of_each(self):
        self.tells(GREATEST_LINES, shown, GREATEST_MILL, GREATEST_CONTENTS)

    def test_names_that_are_words_of_the_lines(self):
        for one, other in (("tide", "ring"), ("pond", "gate"), ("gate", "wheel"), ("wheel", "pond"), ("ring", "tide")):
            ponds = ((one, 1, 0, 1), (other, 2, 0, 3))
            mill = ((5, ()), ponds, ((0, 1, 0, 1), (1, SEA, 0, 1)), ((1, 0, 1, 2, 3),))
            lines = [
                "tide 5",
                f"pond {one} 1 0 1 1",
                f"pond {other} 2 0 3 6",
                f"gate {one} {other} 0 1",
                f"gate {other} sea 0 1",
                f"wheel {other} {one} 1 2 3",
            ]
            self.tells(lines, shown, mill, (1, 6))


class TestWhatIsToldIsTheAskersOwn(Asking):
    def test_the_list_may_be_changed_and_is_told_anew(self):
        first = shown(MILL, CONTENTS)
        second = shown(MILL, CONTENTS)
        second.append("rubbish")
        second.reverse()
        self.assertEqual(first, LINES)
        first.clear()
        self.assertEqual(shown(MILL, CONTENTS), LINES)

    def test_other_questions_between_change_nothing(self):
        first = shown(MILL, CONTENTS)
        for draw, mill, contents in small_mills(20):
            self.ask(shown, mill, contents)
        self.assertEqual(first, LINES)
        self.tells(LINES, shown, MILL, CONTENTS)

    def test_the_kinds_of_what_is_told(self):
        for draw, mill, contents in small_mills(20):
            told = shown(mill, contents)
            self.assertIs(type(told), list)
            self.assertEqual({type(line) for line in told}, {str})


if __name__ == "__main__":
    unittest.main()
