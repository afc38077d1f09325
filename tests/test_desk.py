"""Point 26 and the interface's lines of a desk, and what points 2, 3 and 4 say of it."""

import collections
import itertools
import unittest

from asking import Asking
from plain_desk import NO_WORDS, PlainDesk, spoilt_line
from plain_lines import many_lines, plain_lines, plain_read
from plain_plans import bounded_mills, choosing_mills, tidal_mills
from planning import BARE, DRAINING, FILLING, LARGE, TIDES
from tidepond.desk import Desk
from tidepond.errors import MillError, NoLine
from written import GREATEST_LINES, LINES

BARE_LINES = plain_lines(BARE, (2,))
FILLING_LINES = plain_lines(FILLING, (0,))
DRAINING_LINES = plain_lines(DRAINING, (3,))
TIDES_LINES = plain_lines(TIDES, (1,))
LARGE_LINES = plain_lines(LARGE, (4, 9))
# Three gates, of which the last two let nothing pass, and two wheels that need more fall than there is.
THREE_LINES = ["tide 2", "pond a 1 0 3 0", "gate sea a 0 1", "gate sea a 2 1", "gate sea a 3 1", "wheel a sea 9 1 1",
               "wheel a sea 9 1 1"]


def stands(desk):
    return [desk.say(line) for line in NO_WORDS]


def desk_behind(lines, *said):
    desk = Desk(lines)
    for line in said:
        desk.say(line)
    return desk


class Desks(Asking):
    def answers(self, expected, desk, line):
        self.assertEqual(repr(desk.say(line)), repr(expected))

    def asked(self, expected, desk, line):
        # What is only asked changes nothing, and is answered alike when it is asked again.
        before = stands(desk)
        for time in range(2):
            self.answers(expected, desk, line)
            self.assertEqual(stands(desk), before)

    def says(self, desk, *rows):
        for line, expected in rows:
            self.answers(expected, desk, line)

    def none(self, word, desk, line):
        before = stands(desk)
        self.refuses(("NoLine", 0, word), desk.say, line)
        self.assertEqual(stands(desk), before)

    def none_of(self, desk, *rows):
        for line, word in rows:
            with self.subTest(line=line):
                self.none(word, desk, line)


class TestAtFirst(Desks):
    def test_a_mill_with_all_kinds_of_lines(self):
        desk = Desk(LINES)
        self.asked("0 ground 0", desk, "turn")
        self.asked("ss", desk, "gates")
        self.asked("9", desk, "sea")
        self.asked("mere 1/2, low -6/1", desk, "levels")
        self.asked(", ".join(LINES), desk, "show")
        self.asked("round 3 high 9 at 0 low 1 at 2", desk, "tides")

    def test_a_mill_without_rings_gates_or_wheels(self):
        desk = Desk(["tide -7", "pond mere 1 0 1 0"])
        self.asked("0 ground 0", desk, "turn")
        self.asked("-", desk, "gates")
        self.asked("-7", desk, "sea")
        self.asked("mere 0/1", desk, "levels")
        self.asked("tide -7, pond mere 1 0 1 0", desk, "show")
        self.asked("round 1 high -7 at 0 low -7 at 0", desk, "tides")

    def test_the_greatest_mill(self):
        desk = Desk(GREATEST_LINES)
        self.asked("sss", desk, "gates")
        self.asked("1001", desk, "sea")
        self.asked("abcdefgh 1000/1, stuvwxyz -1000/1, zzzzzzzz 99999/100", desk, "levels")
        self.asked(", ".join(GREATEST_LINES), desk, "show")
        self.asked("round 2 high 1001 at 0 low -999 at 1", desk, "tides")

    def test_levels_as_the_interface_writes_them(self):
        self.asked("mere -3/2", Desk(["tide 0", "pond mere 2 -4 8 5"]), "levels")
        self.asked("mere 5/1", Desk(["tide 0", "pond mere 2 -4 8 18"]), "levels")
        self.asked("a 0/1, b -1/3, c 7/4", Desk(["tide 0", "pond a 9 0 1 0", "pond b 6 -1 1 4", "pond c 8 1 2 6"]),
                   "levels")

    def test_as_many_signs_as_gates(self):
        for many in range(1, 4):
            self.asked("s" * many, Desk(["tide 0", "pond a 1 0 1 0"] + ["gate sea a 0 1"] * many), "gates")

    def test_the_tides_tell_the_least_round_and_the_first_turns(self):
        desk = Desk(["tide 1", "ring 1 0 5 0 5", "ring 0 2 2", "pond a 1 0 1 0"])
        self.asked("round 2 high 8 at 0 low 3 at 1", desk, "tides")
        desk = Desk(["tide 0", "ring 2 0 5 0 5 -3", "pond a 1 0 1 0"])
        self.asked("round 5 high 5 at 1 low -3 at 2", desk, "tides")


class TestGo(Desks):
    def test_gates_and_wheels_turn_by_turn(self):
        desk = Desk(LINES)
        self.says(
            desk, ("go oo rr", "gate 0 sea mere 20, gate 1 mere low 5"), ("turn", "1 ground 0"), ("gates", "oo"),
            ("sea", "5"), ("levels", "mere 2/1, low -19/4"), ("go ss rr", "none"), ("gates", "ss"), ("sea", "1"),
            ("go so ss", "gate 1 mere low 5"), ("gates", "so"), ("turn", "3 ground 0"), ("sea", "9"),
            ("go os ss", "gate 0 sea mere 20"), ("go ss ss", "none"), ("levels", "mere 7/2, low -7/2"),
            ("go so rs", "gate 1 mere low 5, wheel 0"), ("turn", "6 ground 3"), ("gates", "so"),
            ("levels", "mere 2/1, low -9/4"))
        shown = list(LINES)
        shown[3:5] = ["pond mere 10 -5 5 70", "pond low 4 -6 2 15"]
        self.asked(", ".join(shown), desk, "show")
        self.asked("round 3 high 9 at 0 low 1 at 2", desk, "tides")

    def test_what_is_ground_is_summed_up(self):
        desk = Desk(DRAINING_LINES)
        self.says(desk, ("go - r", "wheel 0"), ("turn", "1 ground 7"), ("go - s", "none"), ("turn", "2 ground 7"),
                  ("go - r", "wheel 0"), ("go - r", "wheel 0"), ("turn", "4 ground 21"), ("go - r", "none"),
                  ("turn", "5 ground 21"), ("levels", "a 0/1"), ("gates", "-"))

    def test_several_wheels(self):
        lines = ["tide -50", "pond a 10 0 10 60", "pond b 10 -20 -10 0", "wheel a sea 1 6 5", "wheel a b 1 6 70",
                 "wheel b sea 1 2 900"]
        self.says(Desk(lines), ("go - rrr", "wheel 0, wheel 1, wheel 2"), ("turn", "1 ground 975"))
        self.says(Desk(lines), ("go - srs", "wheel 1"), ("turn", "1 ground 70"))
        self.says(Desk(lines), ("go - rss", "wheel 0"), ("turn", "1 ground 5"))
        self.says(Desk(lines), ("go - ssr", "none"), ("turn", "1 ground 0"))
        self.says(Desk(lines), ("go - srr", "wheel 1, wheel 2"), ("levels", "a 27/5, b -98/5"))

    def test_each_sign_is_of_its_own_gate(self):
        for word in map("".join, itertools.product("os", repeat=3)):
            desk = Desk(THREE_LINES)
            self.answers("gate 0 sea a 1" if word[0] == "o" else "none", desk, f"go {word} ss")
            self.answers(word, desk, "gates")

    def test_neither_gates_nor_wheels(self):
        desk = Desk(BARE_LINES)
        for turn in range(1, 4):
            self.says(desk, ("go - -", "none"), ("turn", f"{turn} ground 0"), ("gates", "-"), ("levels", "a 2/1"))

    def test_gates_and_no_wheels(self):
        self.says(Desk(FILLING_LINES), ("go o -", "gate 0 sea a 1"), ("go s -", "none"), ("go o -", "gate 0 sea a 1"),
                  ("go o -", "none"), ("turn", "4 ground 0"), ("gates", "o"), ("levels", "a 2/1"))

    def test_water_that_goes_to_the_sea(self):
        self.says(Desk(["tide 0", "pond a 1 0 3 3", "gate sea a 1 1"]), ("go o -", "gate 0 a sea 1"))

    def test_the_sea_is_that_of_each_turn(self):
        desk = Desk(TIDES_LINES)
        for turn in range(6):
            self.answers(("3", "-3")[turn % 2], desk, "sea")
            self.answers("none", desk, "go s s")


class TestMost(Desks):
    def test_at_first(self):
        desk = Desk(TIDES_LINES)
        for line, told in (("most 0", "ground 0 moves 0"), ("most 1", "ground 0 moves 0"),
                           ("most 2", "ground 5 moves 0"), ("most 4", "ground 10 moves 2"),
                           ("most 8", "ground 20 moves 4")):
            self.asked(told, desk, line)

    def test_from_where_the_desk_stands(self):
        desk = desk_behind(TIDES_LINES, "go o s")
        self.asked("ground 5 moves 0", desk, "most 1")
        self.asked("ground 10 moves 1", desk, "most 3")
        desk = desk_behind(TIDES_LINES, "go s s", "go s r")
        self.asked("ground 0 moves 0", desk, "most 1")
        self.asked("ground 5 moves 2", desk, "most 2")

    def test_what_was_ground_ahead_is_not_counted(self):
        desk = desk_behind(DRAINING_LINES, "go - r")
        self.asked("ground 14 moves 0", desk, "most 40")
        self.asked("1 ground 7", desk, "turn")

    def test_forty_turns(self):
        self.asked("ground 21 moves 0", Desk(DRAINING_LINES), "most 40")
        self.asked("ground 0 moves 0", Desk(BARE_LINES), "most 40")
        self.assertTrue(Desk(TIDES_LINES).say("most 40").startswith("ground 100 moves "))

    def test_a_large_mill(self):
        desk = Desk(LARGE_LINES)
        told = desk.say("most 40")
        self.assertEqual(desk.say("do 40"), told)
        self.assertEqual(desk.say("turn"), "40 ground " + told.split(" ")[1])


class TestSoonest(Desks):
    def test_at_first(self):
        desk = Desk(DRAINING_LINES)
        for line, told in (("soonest 0 0", "0"), ("soonest 0 40", "0"), ("soonest 7 9", "1"), ("soonest 8 9", "2"),
                           ("soonest 21 3", "3"), ("soonest 21 2", "never"), ("soonest 22 40", "never"),
                           ("soonest 1 0", "never"), ("soonest 9999999999999 40", "never")):
            self.asked(told, desk, line)

    def test_from_where_the_desk_stands(self):
        desk = desk_behind(DRAINING_LINES, "go - r", "go - s")
        for line, told in (("soonest 0 2", "2"), ("soonest 7 2", "never"), ("soonest 7 3", "3"),
                           ("soonest 14 42", "4"), ("soonest 15 42", "never")):
            self.asked(told, desk, line)

    def test_the_tide_counts(self):
        self.asked("2", Desk(TIDES_LINES), "soonest 1 40")
        self.asked("4", Desk(TIDES_LINES), "soonest 6 40")
        self.asked("never", Desk(TIDES_LINES), "soonest 6 3")

    def test_mills_that_grind_nothing(self):
        self.asked("never", Desk(BARE_LINES), "soonest 1 40")
        self.asked("0", Desk(BARE_LINES), "soonest 0 40")


class TestWorks(Desks):
    def test_works_that_are_met(self):
        desk = Desk(DRAINING_LINES)
        for line, told in (("works 7:1", "ground 7 moves 0"), ("works 14:2", "ground 14 moves 0"),
                           ("works 1:40", "ground 21 moves 0"), ("works 7:2 7:1", "ground 14 moves 0"),
                           ("works 3:1 4:1 7:3", "ground 21 moves 0")):
            self.asked(told, desk, line)
        self.asked("ground 10 moves 2", Desk(TIDES_LINES), "works 5:2 5:4")

    def test_works_that_are_refused(self):
        desk = Desk(DRAINING_LINES)
        for line, told in (("works 8:1", "refused 1 7"), ("works 7:1 8:2", "refused 2 14"),
                           ("works 4:1 4:1", "refused 1 7"), ("works 22:40", "refused 40 21"),
                           ("works 99:3 8:1", "refused 1 7"), ("works 1000000:1", "refused 1 7")):
            self.asked(told, desk, line)
        self.asked("refused 3 0", Desk(BARE_LINES), "works 1:3")

    def test_from_where_the_desk_stands(self):
        desk = desk_behind(DRAINING_LINES, "go - r", "go - s")
        for line, told in (("works 7:3", "ground 7 moves 0"), ("works 8:3", "refused 3 7"),
                           ("works 14:4", "ground 14 moves 0"), ("works 1:42", "ground 14 moves 0")):
            self.asked(told, desk, line)

    def test_one_to_twenty_works(self):
        desk = Desk(DRAINING_LINES)
        for many in range(1, 21):
            self.asked("ground 21 moves 0", desk, "works" + " 1:40" * many)


class TestDo(Desks):
    def test_what_stands_behind_it(self):
        desk = Desk(DRAINING_LINES)
        self.says(desk, ("do 2", "ground 14 moves 0"), ("turn", "2 ground 14"), ("levels", "a 1/1"), ("gates", "-"),
                  ("do 1", "ground 7 moves 0"), ("turn", "3 ground 21"), ("levels", "a 0/1"),
                  ("do 40", "ground 0 moves 0"), ("turn", "43 ground 21"))

    def test_the_gates_stand_as_the_plan_left_them(self):
        desk = Desk(TIDES_LINES)
        self.says(desk, ("do 2", "ground 5 moves 0"), ("gates", "s"), ("levels", "a 0/1"), ("turn", "2 ground 5"))
        desk = Desk(TIDES_LINES)
        self.says(desk, ("do 4", "ground 10 moves 2"), ("gates", "s"), ("levels", "a 1/1"), ("turn", "4 ground 10"),
                  ("sea", "3"), ("show", "tide 0, ring 0 3 -3, pond a 1 0 3 1, gate sea a 0 2, wheel a sea 2 1 5"))
        # With the gate open at the last turn, since it fills the pond just ahead of the wheel.
        lines = ["tide 5", "pond a 1 0 1 0", "pond b 1 -9 -8 0", "gate sea a 0 1", "wheel a b 1 1 4"]
        self.says(Desk(lines), ("do 1", "ground 4 moves 1"), ("gates", "o"), ("levels", "a 0/1, b -8/1"))

    def test_do_0(self):
        for desk in (Desk(TIDES_LINES), desk_behind(TIDES_LINES, "go o s", "go o r"), Desk(BARE_LINES)):
            self.asked("ground 0 moves 0", desk, "do 0")

    def test_it_is_of_these_turns_alone(self):
        desk = desk_behind(DRAINING_LINES, "go - r", "go - s")
        self.says(desk, ("do 1", "ground 7 moves 0"), ("turn", "3 ground 14"))

    def test_the_moves_count_from_where_the_gates_stand(self):
        desk = desk_behind(TIDES_LINES, "go o s")
        self.says(desk, ("do 3", "ground 10 moves 1"), ("turn", "4 ground 10"), ("gates", "s"))

    def test_it_is_answered_as_by_most(self):
        for draw, mill, contents, setting in tidal_mills(25):
            desk = Desk(plain_lines(mill, contents))
            for turns in (3, 0, 7, 1):
                turn, word, ground = desk.say("turn").split(" ")
                told = desk.say(f"most {turns}")
                self.assertEqual(desk.say(f"do {turns}"), told)
                behind = f"{int(turn) + turns} ground {int(ground) + int(told.split(' ')[1])}"
                self.assertEqual(desk.say("turn"), behind)


class TestLinesThatAreNone(Desks):
    def test_first_words(self):
        desk = desk_behind(TIDES_LINES, "go o r")
        for word in ("", "Turn", "TURN", "turns", "tur", "tide", "ring", "pond", "gate", "wheel", "level", "goes", "g",
                     "0", "-", "x", "ground", "none", "never", "refused", "work", "did", "setting", "most:", "go,"):
            for more in ("", " ", " 1", " o r", " 1:2"):
                self.none(0, desk, word + more)

    def test_a_line_of_blanks(self):
        for line in ("", " ", "  ", "      "):
            self.none(0, Desk(TIDES_LINES), line)

    def test_a_blank_ahead(self):
        desk = Desk(TIDES_LINES)
        for line in NO_WORDS + ("go o r", "most 1", "soonest 1 2", "works 1:2", "do 1"):
            self.none(0, desk, " " + line)

    def test_a_blank_behind(self):
        desk = Desk(TIDES_LINES)
        for line in NO_WORDS + ("go o r", "most 1", "soonest 1 2", "works 1:2", "do 1"):
            self.none(len(line.split(" ")), desk, line + " ")
            self.none(len(line.split(" ")), desk, line + "  ")

    def test_two_blanks_side_by_side(self):
        self.none_of(Desk(TIDES_LINES), ("go  o r", 1), ("go o  r", 2), ("most  1", 1), ("soonest  1 2", 1),
                     ("soonest 1  2", 2), ("works  1:2", 1), ("works 1:2  1:2", 2), ("do  1", 1))

    def test_words_that_lack(self):
        self.none_of(Desk(TIDES_LINES), ("go", 1), ("go o", 2), ("most", 1), ("soonest", 1), ("soonest 1", 2),
                     ("works", 1), ("do", 1))

    def test_one_too_many(self):
        desk = Desk(TIDES_LINES)
        for line in NO_WORDS + ("go o r", "most 1", "soonest 1 2", "do 1"):
            for more in (" 1", " x", " o", " 1:2", " 1 2 3", " " + line):
                self.none(len(line.split(" ")), desk, line + more)

    def test_the_first_wrong_word_comes_ahead_of_those_that_lack_or_are_too_many(self):
        self.none_of(Desk(TIDES_LINES), ("go x", 1), ("go x r s", 1), ("go o x s", 2), ("most x 1", 1),
                     ("soonest x", 1), ("soonest x y", 1), ("soonest 1 x 3", 2), ("do 41 1", 1), ("works x 1:2", 1),
                     ("works 1:2 x y", 2), ("works x" + " 1:2" * 30, 1))

    def test_signs_of_gates(self):
        desk = Desk(TIDES_LINES)
        for word in ("oo", "so", "O", "S", "r", "x", "-", "o-", "0", "1", "open", "True"):
            self.none(1, desk, f"go {word} r")
            self.none(1, desk, f"go {word} x")
        desk = Desk(THREE_LINES)
        for word in ("o", "os", "osos", "ossss", "oxs", "oor", "--", "-", "---", "ooO", "rrr", "sr"):
            self.none(1, desk, f"go {word} ss")

    def test_signs_of_wheels(self):
        desk = Desk(TIDES_LINES)
        for word in ("rr", "sr", "R", "S", "o", "x", "-", "r-", "0", "1", "run", "True"):
            self.none(2, desk, f"go o {word}")
        desk = Desk(THREE_LINES)
        for word in ("r", "s", "rrr", "rsr", "or", "ro", "--", "-", "rR", "oo", "xs", "sx"):
            self.none(2, desk, f"go oso {word}")

    def test_without_gates_or_wheels_the_word_is_one_sign(self):
        for word in ("o", "s", "r", "--", "-s", "s-", "0", "", "---"):
            self.none(1, Desk(DRAINING_LINES), f"go {word} r")
            self.none(1, Desk(BARE_LINES), f"go {word} -")
            self.none(2, Desk(FILLING_LINES), f"go o {word}")
            self.none(2, Desk(BARE_LINES), f"go - {word}")

    def test_words_that_are_no_numbers(self):
        desk = Desk(DRAINING_LINES)
        for word in ("-", "-0", "-1", "+1", "+0", "00", "01", "007", "0000000000001", "1.0", "1e1", "1_0", "0x1", "x",
                     "one", "1-", "1:1", "1,", "/1", ";1", "1a", "a1", "1/2", "o", "s"):
            self.none_of(desk, (f"most {word}", 1), (f"do {word}", 1), (f"soonest {word} 5", 1),
                         (f"soonest 5 {word}", 2), (f"works {word}:5", 1), (f"works 5:{word}", 1),
                         (f"works 1:1 5:{word}", 2))

    def test_thirteen_and_fourteen_figures(self):
        desk = Desk(DRAINING_LINES)
        self.asked("never", desk, "soonest 1000000000000 40")
        self.asked("never", desk, "soonest 9999999999999 0")
        self.none_of(desk, ("soonest 10000000000000 40", 1), ("soonest 99999999999999 40", 1),
                     ("soonest 00000000000000 40", 1), ("soonest 1 10000000000000", 2), ("soonest 1 9999999999999", 2),
                     ("most 9999999999999", 1), ("do 9999999999999", 1), ("most 10000000000000", 1),
                     ("works 9999999999999:1", 1), ("works 1:9999999999999", 1), ("works 10000000000000:1", 1),
                     ("works 1:10000000000000", 1), ("soonest " + "1" * 400 + " 40", 1))

    def test_turns_of_forty_and_forty_one(self):
        for desk in (Desk(DRAINING_LINES), desk_behind(DRAINING_LINES, "go - s", "go - s")):
            self.asked("ground 21 moves 0", desk, "most 40")
            self.none_of(desk, ("most 41", 1), ("most 42", 1), ("most 100", 1), ("do 41", 1), ("do 400", 1))
            self.answers("ground 21 moves 0", desk, "do 40")

    def test_the_last_turn_ahead_of_the_turn_and_far_behind_it(self):
        desk = Desk(DRAINING_LINES)
        self.asked("0", desk, "soonest 0 0")
        self.asked("never", desk, "soonest 99 40")
        self.none(2, desk, "soonest 0 41")
        desk = desk_behind(DRAINING_LINES, "do 3", "do 3")
        self.asked("6", desk, "soonest 0 6")
        self.asked("6", desk, "soonest 0 46")
        self.none_of(desk, ("soonest 0 5", 2), ("soonest 0 0", 2), ("soonest 0 47", 2), ("soonest 0 100", 2))

    def test_a_due_at_the_turn_and_far_behind_it(self):
        desk = Desk(DRAINING_LINES)
        self.asked("ground 7 moves 0", desk, "works 1:1")
        self.asked("ground 21 moves 0", desk, "works 1:40")
        self.none_of(desk, ("works 1:0", 1), ("works 1:41", 1), ("works 1:1 1:0", 2), ("works 1:40 1:41", 2))
        desk = desk_behind(DRAINING_LINES, "do 1", "go - s")
        self.asked("ground 7 moves 0", desk, "works 1:3")
        self.asked("ground 14 moves 0", desk, "works 1:42")
        self.none_of(desk, ("works 1:2", 1), ("works 1:1", 1), ("works 1:0", 1), ("works 1:43", 1),
                     ("works 1:3 1:42 1:2", 3), ("works 1:3 1:43 1:2", 2))

    def test_amounts_of_works(self):
        desk = Desk(DRAINING_LINES)
        self.asked("refused 1 7", desk, "works 1000000:1")
        self.none_of(desk, ("works 0:1", 1), ("works 1000001:1", 1), ("works 1:1 0:1", 2), ("works 1:1 1000001:1", 2))

    def test_works_of_another_form(self):
        desk = Desk(DRAINING_LINES)
        for word in ("1", ":", "1:", ":1", "::", "1:1:1", "1::1", ":1:1", "1:1:", "1;1", "1,1", "1-1", "1:1,", "-1:1",
                     "1:-1", "1:+1", "01:1", "1:01", "x:1", "1:x"):
            self.none(1, desk, f"works {word}")
            self.none(2, desk, f"works 1:1 {word}")
            self.none(20, desk, "works" + " 1:1" * 19 + " " + word)

    def test_twenty_one_works(self):
        desk = Desk(DRAINING_LINES)
        for more in (1, 2, 30):
            self.none(21, desk, "works" + " 1:40" * (20 + more))
        self.none(21, desk, "works" + " 1:40" * 20 + " x")
        self.none(21, desk, "works" + " 1:40" * 20 + " ")

    def test_the_refusal_is_under_no_other_class_but_the_base(self):
        with self.assertRaises(MillError) as caught:
            Desk(TIDES_LINES).say("most 41")
        self.assertIs(type(caught.exception), NoLine)
        self.assertEqual([type(caught.exception.line), type(caught.exception.word)], [int, int])

    def test_a_desk_that_cannot_be_asked_for_the_most_refuses_as_others_do(self):
        self.none_of(Desk(GREATEST_LINES), ("most 41", 1), ("most", 1), ("works 0:1", 1), ("soonest 1 41", 2),
                     ("do x", 1), ("go oo sss", 1))


class TestLinesOfADesk(Asking):
    def test_lines_that_are_refused(self):
        for expected, lines in (
                (("NoLine", 0, 0), []), (("NoLine", 1, 0), ["tide 0"]), (("NoLine", 0, 1), ["tide x"] + LINES[1:]),
                (("NoLine", 9, 0), LINES + ["turn"]), (("NoMill", "tide", 0), ["tide 1001"] + LINES[1:]),
                (("NoMill", "wheel", 0), TIDES_LINES[:-1] + ["wheel a a 1 1 1"]),
                (("NoContent", 0), ["tide 0", "pond a 1 0 3 4"]), (("NoContent", 1), LINES[:4] + ["pond b 1 0 3 -1"])):
            self.refuses(expected, Desk, lines)

    def test_lines_right_and_wrong(self):
        told = collections.Counter()
        for lines in many_lines(150):
            expected = plain_read(lines)
            if type(expected[0]) is str:
                self.refuses(expected, Desk, lines)
                told[expected[0]] += 1
            else:
                desk = Desk(lines)
                self.assertEqual(stands(desk)[0::4], ["0 ground 0", ", ".join(lines)])
                told["right"] += 1
        self.assertGreater(min(told.values()), 10)
        self.assertEqual(len(told), 4)

    def test_the_list_changed_behind_changes_nothing(self):
        lines = list(TIDES_LINES)
        desk = Desk(lines)
        self.assertEqual(lines, TIDES_LINES)
        before = stands(desk)
        lines[1] = "ring 0 9"
        self.assertEqual(stands(desk), before)
        lines.clear()
        self.assertEqual(stands(desk), before)
        self.assertEqual(desk.say("go o s"), "gate 0 sea a 2")
        self.assertEqual(lines, [])


class TestDesksSideBySide(Desks):
    def test_one_of_the_same_lines(self):
        lines = list(TIDES_LINES)
        one, other = Desk(lines), Desk(lines)
        before = stands(other)
        self.says(one, ("go o s", "gate 0 sea a 2"), ("go s r", "wheel 0"), ("do 3", "ground 5 moves 0"))
        self.assertEqual(stands(other), before)
        self.assertEqual(stands(Desk(lines)), before)
        self.says(other, ("go o s", "gate 0 sea a 2"), ("go s r", "wheel 0"), ("turn", "2 ground 5"))
        self.assertEqual(one.say("turn"), "5 ground 10")
        self.assertEqual(lines, TIDES_LINES)

    def test_one_of_other_lines(self):
        one, other = Desk(TIDES_LINES), Desk(DRAINING_LINES)
        for turn in range(1, 5):
            one.say("go o r")
            other.say("do 1")
            self.assertEqual(other.say("turn"), f"{turn} ground {min(turn, 3) * 7}")
            self.assertEqual(one.say("gates"), "o")
            self.assertEqual(other.say("gates"), "-")

    def test_the_same_lines_said_are_answered_alike(self):
        said = ["go o r", "most 5", "go s r", "works 5:6 1:3", "do 4", "soonest 9 12", "turn", "show", "gates"]
        one, other = Desk(TIDES_LINES), Desk(TIDES_LINES)
        self.assertEqual([one.say(line) for line in said], [other.say(line) for line in said])


class TestManyLines(Desks):
    def talks(self, draw, mill, contents, turns, told):
        desk, plain = Desk(plain_lines(mill, contents)), PlainDesk(mill, contents)
        for time in range(25):
            line = plain.right_line(draw, turns)
            if draw.random() < 0.4:
                line = spoilt_line(draw, line)
            if plain.wrong_word(line) is not None:
                self.none(plain.wrong_word(line), desk, line)
                told["none"] += 1
            elif self.is_long(plain, line, turns):
                told["long"] += 1
            else:
                self.talk(desk, plain, line)
                told[line.split(" ")[0]] += 1
            self.assertEqual(stands(desk), [plain.answer(line) for line in NO_WORDS])

    def is_long(self, plain, line, turns):
        # The plain search takes too long for many turns.
        first, *words = line.split(" ")
        if first in ("most", "do"):
            return int(words[0]) > turns
        return first == "soonest" and int(words[1]) > plain.turn + turns

    def talk(self, desk, plain, line):
        first, *words = line.split(" ")
        if first != "do":
            self.answers(plain.answer(line), desk, line)
            return
        turns = int(words[0])
        told = plain.answer_most(turns)
        ends = plain.best_ends(turns)
        self.answers(told, desk, line)
        contents = plain_read(desk.say("show").split(", "))[1]
        setting = tuple(sign == "o" for sign in desk.say("gates").replace("-", ""))
        self.assertIn((contents, setting), ends)
        plain.stand(contents, setting, turns, int(told.split(" ")[1]))

    def test_over_many_mills(self):
        told = collections.Counter()
        for draw, mill, contents, setting in itertools.chain(
                bounded_mills(60, 300), tidal_mills(40), choosing_mills(20)):
            self.talks(draw, mill, contents, 3, told)
        for kind in ("none", "go", "most", "soonest", "works", "do") + NO_WORDS:
            self.assertGreater(told[kind], 30)


if __name__ == "__main__":
    unittest.main()
