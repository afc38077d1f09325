"""Point 19, with points 3, 8, 9, 10, 11 and 18 where it draws on them, and what point 2 says of it."""

import collections
import itertools
import unittest

from asking import Asking
from plain import small_mills
from plain_lines import many_lines, plain_read
from tidepond.errors import MillError, NoContent, NoLine, NoMill
from tidepond.reading import read
from tidepond.showing import shown
from written import CONTENTS, GREATEST_CONTENTS, GREATEST_LINES, GREATEST_MILL, LINES, MILL, SEA

# The places, in LINES, of the words that must be numbers.
NUMBERS = [(0, 1)] + [(1, n) for n in range(1, 5)] + [(2, 1), (2, 2)] + [
    (line, word) for line in (3, 4) for word in range(2, 6)] + [
    (line, word) for line in (5, 6) for word in (3, 4)] + [
    (line, word) for line in (7, 8) for word in range(3, 6)]
FIRSTS = ("tide", "ring", "pond", "gate", "wheel")
TIDE = "tide 0"
RING = "ring 0 1"
POND = "pond mere 10 -5 5 55"
GATE = "gate sea mere -3 20"
WHEEL = "wheel mere sea 2 10 3"


def put(place, word):
    line, number = place
    words = LINES[line].split(" ")
    words[number] = word
    return LINES[:line] + [" ".join(words)] + LINES[line + 1:]


def in_place(number, line):
    return LINES[:number] + [line] + LINES[number + 1:]


def with_rings(*lengths):
    return [TIDE] + ["ring 0" + " 0" * length for length in lengths] + [POND]


class Reading(Asking):
    def reads(self, told, lines):
        self.tells(told, read, lines)
        self.assertEqual(repr(plain_read(lines)), repr(told))

    def wrong(self, expected, lines):
        self.refuses(expected, read, lines)
        self.assertEqual(repr(plain_read(lines)), repr(expected))

    def no_line(self, line, word, lines):
        self.wrong(("NoLine", line, word), lines)

    def no_mill(self, word, number, lines):
        self.wrong(("NoMill", word, number), lines)

    def no_content(self, pond, lines):
        self.wrong(("NoContent", pond), lines)


class TestRightLines(Reading):
    def test_a_mill_with_all_kinds_of_lines(self):
        self.reads((MILL, CONTENTS), LINES)

    def test_no_rings_gates_or_wheels(self):
        self.reads((((0, ()), (("mere", 10, -5, 5),), (), ()), (55,)), [TIDE, POND])

    def test_each_kind_of_line_by_itself(self):
        ponds = (("mere", 10, -5, 5),)
        ring, gate, wheel = (0, (1,)), (SEA, 0, -3, 20), (0, SEA, 2, 10, 3)
        self.reads((((0, (ring,)), ponds, (), ()), (55,)), [TIDE, RING, POND])
        self.reads((((0, ()), ponds, (gate,), ()), (55,)), [TIDE, POND, GATE])
        self.reads((((0, ()), ponds, (), (wheel,)), (55,)), [TIDE, POND, WHEEL])
        self.reads((((0, (ring,)), ponds, (), (wheel,)), (55,)), [TIDE, RING, POND, WHEEL])
        self.reads((((0, (ring,) * 4), ponds, (gate,) * 3, (wheel,) * 3), (55,)),
                   [TIDE] + [RING] * 4 + [POND] + [GATE] * 3 + [WHEEL] * 3)

    def test_the_greatest_numbers_of_each(self):
        self.reads((GREATEST_MILL, GREATEST_CONTENTS), GREATEST_LINES)

    def test_names_that_are_words_of_the_lines(self):
        for names in itertools.permutations(FIRSTS, 3):
            ponds = tuple((name, 1, 0, 5) for name in names)
            mill = ((5, ()), ponds, ((0, 1, 0, 1), (2, SEA, 0, 1)), ((1, 2, 1, 2, 3), (2, SEA, 1, 2, 3)))
            self.reads((mill, (1, 2, 3)), shown(mill, (1, 2, 3)))

    def test_names_that_begin_with_sea(self):
        mill = ((5, ()), (("seal", 1, 0, 5), ("se", 1, 0, 5)), ((0, SEA, 0, 1),), ((1, 0, 1, 1, 1),))
        self.reads((mill, (0, 1)), shown(mill, (0, 1)))

    def test_every_pair_of_sides(self):
        lines = ["tide 0", "pond a 1 0 1 0", "pond b 1 0 1 0", "pond c 1 0 1 0"]
        sides = {"sea": SEA, "a": 0, "b": 1, "c": 2}
        for one, other in itertools.permutations(sides, 2):
            mill, contents = read(lines + [f"gate {one} {other} 0 1"])
            self.assertEqual(mill[2], ((sides[one], sides[other], 0, 1),))
            if one != "sea":
                mill, contents = read(lines + [f"wheel {one} {other} 1 1 1"])
                self.assertEqual(mill[3], ((sides[one], sides[other], 1, 1, 1),))

    def test_what_is_shown_is_read_to_just_that(self):
        for draw, mill, contents in small_mills(400):
            lines = shown(mill, contents)
            self.reads((mill, contents), lines)
            self.tells(lines, shown, *read(lines))

    def test_the_kinds_of_what_is_told(self):
        def kinds(part):
            return [kinds(inner) for inner in part] if type(part) is tuple else type(part)

        told = read(LINES)
        ring = [int, [int]]
        sea = [int, [[int, [int] * 3], ring]]
        pond, gate, wheel = [str, int, int, int], [int] * 4, [int] * 5
        self.assertEqual(kinds(told), [[sea, [pond] * 2, [gate] * 2, [wheel] * 2], [int] * 2])
        self.assertEqual(kinds(read([TIDE, POND])), [[[int, []], [pond], [], []], [int]])


class TestFirstWords(Reading):
    def test_no_lines(self):
        self.no_line(0, 0, [])

    def test_lines_without_a_pond(self):
        self.no_line(1, 0, [TIDE])
        self.no_line(2, 0, [TIDE, RING])
        self.no_line(3, 0, [TIDE, RING, RING])

    def test_tide_comes_first(self):
        for line in (RING, POND, GATE, WHEEL):
            self.no_line(0, 0, [line])
            self.no_line(0, 0, [line, TIDE, POND])
        self.no_line(0, 0, LINES[1:])

    def test_tide_comes_once(self):
        for number in range(1, len(LINES) + 1):
            self.no_line(number, 0, LINES[:number] + [TIDE] + LINES[number:])

    def test_which_line_may_follow_which(self):
        ahead = {"tide": [TIDE], "ring": [TIDE, RING], "pond": [TIDE, POND], "gate": [TIDE, POND, GATE],
                 "wheel": [TIDE, POND, WHEEL]}
        lines = {"tide": TIDE, "ring": RING, "pond": "pond low 4 -6 2 0", "gate": GATE, "wheel": WHEEL}
        may = {"tide": ("ring", "pond"), "ring": ("ring", "pond"), "pond": ("pond", "gate", "wheel"),
               "gate": ("gate", "wheel"), "wheel": ("wheel",)}
        for one, other in itertools.product(FIRSTS, repeat=2):
            told = ahead[one] + [lines[other]]
            with self.subTest(one=one, other=other):
                if other not in may[one]:
                    self.no_line(len(told) - 1, 0, told)
                elif other == "ring":
                    self.no_line(len(told), 0, told)
                else:
                    self.assertEqual(len(self.ask(read, told)), 2)

    def test_a_gate_or_wheel_needs_a_pond_ahead(self):
        for lines in ([TIDE], [TIDE, RING]):
            self.no_line(len(lines), 0, lines + ["gate sea sea 0 1"])
            self.no_line(len(lines), 0, lines + [GATE, POND])
            self.no_line(len(lines), 0, lines + [WHEEL, POND])

    def test_a_word_that_is_none_of_the_five(self):
        for word in ("", "Tide", "tides", "tid", "sea", "mere", "0", "-", "TIDE", "rings", "pon", "none", "lines",
                     "start", "None", "number", "name", "side"):
            for number in range(len(LINES)):
                self.no_line(number, 0, put((number, 0), word))
            self.no_line(len(LINES), 0, LINES + [word])
            self.no_line(0, 0, [word])

    def test_a_line_without_signs(self):
        for number in range(len(LINES) + 1):
            self.no_line(number, 0, LINES[:number] + [""] + LINES[number:])

    def test_no_word_behind_a_wrong_first_one_is_told(self):
        self.no_line(0, 0, ["tides x y z"])
        self.no_line(1, 0, [TIDE, "gate x"])
        self.no_line(1, 0, [TIDE, "mill"])


class TestHowManyWords(Reading):
    def test_words_that_lack(self):
        for number, line in enumerate(LINES):
            words = line.split(" ")
            least = 3 if words[0] == "ring" else len(words)
            for there in range(1, least):
                self.no_line(number, there, in_place(number, " ".join(words[:there])))

    def test_one_too_many(self):
        for number, line in enumerate(LINES):
            many = len(line.split(" "))
            if not line.startswith("ring"):
                for more in ("1", "mere", "sea", "", "1 2 3", "x y"):
                    self.no_line(number, many, in_place(number, line + " " + more))

    def test_a_ring_without_heights(self):
        self.no_line(1, 2, [TIDE, "ring 5", POND])
        self.no_line(1, 1, [TIDE, "ring", POND])
        self.no_line(2, 2, [TIDE, RING, "ring 1001", POND])

    def test_a_ring_of_many_heights(self):
        for many in (1, 2, 59, 60):
            self.assertEqual(read(with_rings(many))[0][0][1], ((0, (0,) * many),))
        self.no_mill("ring", 0, with_rings(61))
        self.no_line(1, 63, [TIDE, "ring 0" + " 0" * 61 + " x", POND])

    def test_a_wrong_word_ahead_of_those_that_lack_or_are_too_many(self):
        self.no_line(0, 1, ["tide x y"])
        self.no_line(1, 2, [TIDE, "pond mere x"])
        self.no_line(1, 1, [TIDE, "ring x"])
        self.no_line(2, 1, [TIDE, POND, "gate x"])
        self.no_line(2, 2, [TIDE, POND, "gate mere x 0 1 5 6"])
        self.no_line(2, 1, [TIDE, POND, "wheel sea"])
        self.no_line(1, 5, [TIDE, "pond mere 10 -5 5 x 7"])


class TestWordsWithoutSigns(Reading):
    def test_a_blank_ahead(self):
        for number, line in enumerate(LINES):
            self.no_line(number, 0, in_place(number, " " + line))

    def test_a_blank_behind(self):
        for number, line in enumerate(LINES):
            self.no_line(number, len(line.split(" ")), in_place(number, line + " "))
            self.no_line(number, len(line.split(" ")), in_place(number, line + "  "))

    def test_two_blanks_side_by_side(self):
        for number, line in enumerate(LINES):
            words = line.split(" ")
            for word in range(1, len(words)):
                if (words[0], word) != ("pond", 1):
                    spaced = words[:word] + [""] + words[word:]
                    self.no_line(number, word, in_place(number, " ".join(spaced)))

    def test_a_line_of_blanks(self):
        for line in (" ", "  ", "     "):
            for number in range(len(LINES)):
                self.no_line(number, 0, in_place(number, line))

    def test_a_pond_name_without_signs_moves_the_words_behind_it(self):
        # The name is the word without signs, so the former name stands where a number must.
        self.no_line(1, 2, [TIDE, "pond  mere 10 -5 5 55"])

    def test_lines_of_the_first_word_and_a_blank(self):
        self.no_line(0, 1, ["tide "])
        self.no_line(1, 1, [TIDE, "ring "])
        self.no_line(1, 2, [TIDE, "ring 0 "])
        self.no_line(1, 2, [TIDE, "pond "])
        self.no_line(2, 1, [TIDE, POND, "gate "])
        self.no_line(2, 1, [TIDE, POND, "wheel "])


class TestNumbers(Reading):
    def test_what_is_no_number(self):
        for word in ("", "-", "-0", "00", "01", "-01", "000", "007", "-007", "+1", "+0", "--1", "1-", "1-1", "-1-",
                     "1.0", "1,0", "1e1", "1_0", "0x1", "x", "one", "mere", "sea", "/1", ":1", "1a", "a1", "1/2"):
            for place in NUMBERS:
                self.no_line(*place, put(place, word))

    def test_eight_figures(self):
        for word in ("12345678", "-12345678", "10000000", "-10000000", "00000001", "99999999", "1" * 60, "0" * 8):
            for place in NUMBERS:
                self.no_line(*place, put(place, word))

    def test_seven_figures(self):
        # They are numbers, so the mill or a content is refused, and no line.
        whose = {0: "tide", 1: "ring", 3: "pond", 5: "gate", 7: "wheel"}
        for word in ("9999999", "-9999999", "1000000", "-1000000"):
            for line, number in NUMBERS:
                lines = put((line, number), word)
                if line in (3, 4) and number == 5:
                    self.no_content(line - 3, lines)
                else:
                    first = max(place for place in whose if place <= line)
                    self.no_mill(whose[first], line - first, lines)

    def test_one_figure_and_a_sign(self):
        for number in range(-9, 10):
            self.assertEqual(read([f"tide {number}", f"ring 5 {number}", f"pond a 1 {number} 90 7"]),
                             (((number, ((5, (number,)),)), (("a", 1, number, 90),), (), ()), (7,)))

    def test_every_figure_in_every_place(self):
        for number in (10, 19, 20, 90, 100, 102, 345, 678, 901, 999, 1000):
            for written in (number, -number):
                self.assertEqual(read([f"tide {written}", POND])[0][0], (written, ()))

    def test_every_sign_that_is_no_figure(self):
        for code in range(ord(" ") + 1, ord("~") + 1):
            sign = chr(code)
            if sign not in "0123456789%":
                self.no_line(0, 1, ["tide " + sign, POND])
                self.no_line(0, 1, ["tide 1" + sign, POND])
                self.no_line(0, 1, ["tide 1" + sign + "1", POND])
                if sign != "-":
                    self.no_line(0, 1, ["tide " + sign + "1", POND])


class TestSides(Reading):
    def test_a_name_of_no_pond(self):
        for word in ("", "mer", "meres", "Mere", "SEA", "seas", "0", "1", "-1", "x", "gate", "wheel"):
            for place in ((5, 1), (5, 2), (6, 1), (6, 2), (7, 1), (7, 2), (8, 1), (8, 2)):
                self.no_line(*place, put(place, word))

    def test_sea_is_none_as_the_first_word_of_a_wheel(self):
        self.no_line(7, 1, put((7, 1), "sea"))
        self.no_line(8, 1, put((8, 1), "sea"))
        self.no_line(2, 1, [TIDE, POND, "wheel sea mere 1 1 1"])

    def test_sea_is_none_there_even_where_a_pond_is_called_so(self):
        self.no_line(2, 1, [TIDE, "pond sea 1 0 1 0", "wheel sea sea 1 1 1"])
        self.no_line(3, 1, [TIDE, "pond sea 1 0 1 0", POND, "wheel sea mere 1 1 1"])

    def test_a_pond_told_only_below(self):
        below = "pond low 4 -6 2 0"
        self.no_line(2, 2, [TIDE, POND, "gate sea low 0 1", below])
        self.no_line(2, 1, [TIDE, POND, "gate low sea 0 1", below])
        self.no_line(2, 1, [TIDE, POND, "wheel low sea 1 1 1", below])
        self.no_line(2, 2, [TIDE, POND, "wheel mere low 1 1 1", below])
        # Where all ponds are told above it is the pond's line that stands out of its place.
        self.no_line(3, 0, [TIDE, POND, GATE, below])

    def test_the_first_wrong_one_of_two_sides(self):
        self.no_line(2, 1, [TIDE, POND, "gate x y 0 1"])
        self.no_line(2, 2, [TIDE, POND, "gate mere y 0 1"])
        self.no_line(2, 1, [TIDE, POND, "wheel x y 1 1 1"])
        self.no_line(2, 2, [TIDE, POND, "wheel mere y 1 1 1"])

    def test_a_name_that_looks_like_a_number_names_its_pond(self):
        # Its lines are right as lines, and its name is refused behind them.
        self.no_mill("pond", 0, [TIDE, "pond -7 1 0 1 0", "gate -7 sea 0 1", "wheel -7 sea 1 1 1"])
        self.no_line(2, 1, [TIDE, "pond -7 1 0 1 0", "gate 7 sea 0 1"])

    def test_a_name_without_signs_names_its_pond(self):
        self.no_mill("pond", 0, [TIDE, "pond  1 0 1 0", "gate  sea 0 1", "gate sea  0 1", "wheel  sea 1 1 1"])
        self.no_line(2, 1, [TIDE, POND, "gate  sea 0 1"])


class TestNoLineComesFirst(Reading):
    def test_the_first_wrong_line_is_told(self):
        for one, other in itertools.combinations(range(len(LINES)), 2):
            lines = in_place(one, LINES[one] + " ")
            lines[other] = "x"
            self.no_line(one, len(LINES[one].split(" ")), lines)

    def test_the_first_wrong_word_is_told(self):
        for one, other in itertools.combinations(NUMBERS, 2):
            if one[0] == other[0]:
                words = put(one, "x")[one[0]].split(" ")
                words[other[1]] = "x"
                self.no_line(*one, in_place(one[0], " ".join(words)))

    def test_a_wrong_line_ahead_of_a_wrong_mill(self):
        for number, line in enumerate(LINES[1:], start=1):
            lines = in_place(number, line + " ")
            lines[0] = "tide 1001"
            self.no_line(number, len(line.split(" ")), lines)
        self.no_line(4, 0, ["tide 1001", "ring 2000 0", "pond SEA 0 0 0 0", "gate sea sea 0 0", ""])
        self.no_line(2, 0, ["tide 1001", "ring 0 0"])

    def test_a_wrong_line_ahead_of_a_wrong_content(self):
        self.no_line(2, 0, [TIDE, "pond mere 10 -5 5 101", "x"])
        self.no_line(2, 5, [TIDE, "pond mere 10 -5 5 -1", "gate sea mere 0 1 "])


class TestNoMill(Reading):
    def test_each_part_beyond_its_bounds(self):
        for place, numbers, refusal in (
                ((0, 1), (-1001, 1001), ("tide", 0)),
                ((1, 1), (-1, 1001), ("ring", 0)), ((2, 1), (-1, 1001), ("ring", 1)),
                ((1, 2), (-1001, 1001), ("ring", 0)), ((1, 4), (-1001, 1001), ("ring", 0)),
                ((2, 2), (-1001, 1001), ("ring", 1)),
                ((3, 2), (-1, 0, 101), ("pond", 0)), ((4, 2), (-1, 0, 101), ("pond", 1)),
                ((3, 3), (-1001, 5, 6), ("pond", 0)), ((4, 3), (-1001, 2, 3), ("pond", 1)),
                ((3, 4), (-5, -6, 1001), ("pond", 0)), ((4, 4), (-6, -7, 1001), ("pond", 1)),
                ((5, 3), (-1001, 1001), ("gate", 0)), ((6, 3), (-1001, 1001), ("gate", 1)),
                ((5, 4), (-1, 0, 1001), ("gate", 0)), ((6, 4), (-1, 0, 1001), ("gate", 1)),
                ((7, 3), (-1, 0, 2001), ("wheel", 0)), ((8, 3), (-1, 0, 2001), ("wheel", 1)),
                ((7, 4), (-1, 0, 1001), ("wheel", 0)), ((8, 4), (-1, 0, 1001), ("wheel", 1)),
                ((7, 5), (-1, 0, 1001), ("wheel", 0)), ((8, 5), (-1, 0, 1001), ("wheel", 1))):
            for number in numbers:
                self.no_mill(*refusal, put(place, str(number)))

    def test_one_too_many_of_each(self):
        self.no_mill("ring", 4, [TIDE] + [RING] * 5 + [POND])
        self.no_mill("ring", 4, [TIDE] + [RING] * 30 + [POND])
        ponds = [f"pond {name} 1 0 1 0" for name in "abcd"]
        self.no_mill("pond", 3, [TIDE] + ponds)
        self.no_mill("gate", 3, [TIDE, POND] + [GATE] * 4)
        self.no_mill("gate", 3, [TIDE, POND] + [GATE] * 38)
        self.no_mill("wheel", 3, [TIDE, POND] + [WHEEL] * 4)

    def test_a_gate_by_the_fourth_pond(self):
        ponds = [f"pond {name} 1 0 1 0" for name in "abcd"]
        self.no_mill("pond", 3, [TIDE] + ponds + ["gate d sea 0 1", "wheel d a 1 1 1"])

    def test_a_whole_round_above_the_longest(self):
        self.assertEqual(len(read(with_rings(16, 9, 5, 7))[0][0][1]), 4)
        self.no_mill("ring", 3, with_rings(16, 9, 5, 11))
        self.no_mill("ring", 2, with_rings(59, 58, 57))

    def test_names_that_are_none(self):
        for name in ("", "sea", "abcdefghi", "Mere", "mere1", "-1", "0", "m_e", "~", "me-re"):
            self.no_mill("pond", 0, [TIDE, f"pond {name} 1 0 1 0"])
            self.no_mill("pond", 1, [TIDE, POND, f"pond {name} 1 0 1 0", GATE, WHEEL])

    def test_sea_as_a_side_is_the_sea_even_where_a_pond_is_called_so(self):
        self.no_mill("pond", 0, [TIDE, "pond sea 1 0 1 0", "gate sea sea 0 1"])
        self.no_mill("pond", 1, [TIDE, POND, "pond sea 1 0 1 0", "gate sea mere 0 1", "wheel mere sea 1 1 1"])

    def test_two_ponds_of_one_name(self):
        self.no_mill("pond", 1, [TIDE, POND, POND])
        self.no_mill("pond", 1, [TIDE, POND, "pond mere 1 0 1 0", GATE, WHEEL])
        self.no_mill("pond", 2, [TIDE, POND, "pond low 1 0 1 0", "pond mere 1 0 1 0", "gate mere low 0 1"])
        self.no_mill("pond", 2, [TIDE, POND, "pond low 1 0 1 0", "pond low 1 0 1 0", "gate low low 0 1"])

    def test_a_gate_whose_sides_are_one(self):
        for side in ("sea", "mere", "low"):
            self.no_mill("gate", 1, in_place(6, f"gate {side} {side} 0 5"))

    def test_a_wheel_whose_tail_is_its_pond(self):
        for side in ("mere", "low"):
            self.no_mill("wheel", 1, in_place(8, f"wheel {side} {side} 1 2 30"))

    def test_of_several_the_first_is_told(self):
        faults = [("tide", 0, 0, "tide 1001"), ("ring", 0, 1, "ring 1001 0"), ("ring", 1, 2, "ring 0 1001"),
                  ("pond", 0, 3, "pond mere 101 -5 5 0"), ("pond", 1, 4, "pond low 4 2 2 0"),
                  ("gate", 0, 5, "gate sea sea -3 20"), ("gate", 1, 6, "gate mere low 0 0"),
                  ("wheel", 0, 7, "wheel mere mere 2 10 3"), ("wheel", 1, 8, "wheel low mere 0 2 30")]
        lines = list(LINES)
        for word, number, place, line in reversed(faults):
            lines[place] = line
            self.no_mill(word, number, list(lines))
        for one, other in itertools.combinations(faults, 2):
            lines = in_place(other[2], other[3])
            lines[one[2]] = one[3]
            self.no_mill(one[0], one[1], lines)

    def test_a_wrong_mill_ahead_of_a_wrong_content(self):
        self.no_mill("wheel", 0, [TIDE, "pond mere 10 -5 5 101", "wheel mere sea 0 1 1"])
        self.no_mill("gate", 0, [TIDE, "pond mere 10 -5 5 -1", "gate sea sea 0 1"])
        self.no_mill("pond", 1, [TIDE, "pond mere 10 -5 5 -1", "pond low 0 0 1 0"])


class TestNoContent(Reading):
    def test_at_both_bounds_and_one_beyond_each(self):
        for first, second in itertools.product((-1, 0, 100, 101), (-1, 0, 32, 33)):
            lines = [TIDE, f"pond mere 10 -5 5 {first}", f"pond low 4 -6 2 {second}"]
            if first not in (0, 100):
                self.no_content(0, lines)
            elif second not in (0, 32):
                self.no_content(1, lines)
            else:
                self.assertEqual(self.ask(read, lines)[1], (first, second))

    def test_each_pond_by_its_own_number(self):
        for number in range(3):
            for content in ("-1", "2", "-9999999", "9999999"):
                words = [f"pond {name} 1 0 1 1" for name in "abc"]
                words[number] = words[number][:-1] + content
                self.no_content(number, [TIDE] + words + ["gate a b 0 1", "wheel c sea 1 1 1"])

    def test_the_first_of_several(self):
        self.no_content(1, [TIDE, "pond a 1 0 1 1", "pond b 1 0 1 2", "pond c 1 0 1 -1"])

    def test_the_greatest_content(self):
        self.assertEqual(read([TIDE, "pond a 100 -1000 1000 200000"])[1], (200000,))
        self.no_content(0, [TIDE, "pond a 100 -1000 1000 200001"])


class TestManyLines(Reading):
    def test_over_many_lines_right_and_wrong(self):
        told = collections.Counter()
        for lines in many_lines(1500):
            expected = plain_read(lines)
            if type(expected[0]) is str:
                self.refuses(expected, read, lines)
                told[expected[0]] += 1
            else:
                self.tells(expected, read, lines)
                told["right"] += 1
        for kind in ("right", "NoLine", "NoMill", "NoContent"):
            self.assertGreater(told[kind], 100)


class TestRefusals(Asking):
    WRONG = {NoLine: [], NoMill: ["tide 1001", POND], NoContent: [TIDE, "pond mere 10 -5 5 101"]}

    def test_each_is_under_no_other_class_but_the_base(self):
        for kind, lines in self.WRONG.items():
            with self.assertRaises(MillError) as caught:
                read(lines)
            for other in self.WRONG:
                self.assertEqual(isinstance(caught.exception, other), other is kind)

    def test_fields_are_whole_numbers_and_words(self):
        for kind, lines in self.WRONG.items():
            with self.assertRaises(kind) as caught:
                read(lines)
            fields = {NoLine: (("line", int), ("word", int)), NoMill: (("word", str), ("number", int)),
                      NoContent: (("pond", int),)}[kind]
            for field, sort in fields:
                self.assertIs(type(getattr(caught.exception, field)), sort)

    def test_what_is_refused_changes_nothing(self):
        before = repr(read(LINES))
        for kind, lines in self.WRONG.items():
            with self.assertRaises(kind):
                read(lines)
            self.assertEqual(repr(read(LINES)), before)


class TestWhatIsToldIsTheAskersOwn(Asking):
    def test_the_lines_may_be_changed_behind_the_reading(self):
        lines = list(LINES)
        told = read(lines)
        before = repr(told)
        lines.clear()
        self.assertEqual(repr(told), before)
        self.tells(told, read, LINES)

    def test_other_questions_between_change_nothing(self):
        told = read(LINES)
        before = repr(told)
        for lines in many_lines(10):
            try:
                read(lines)
            except MillError:
                pass
        self.assertEqual(repr(told), before)
        self.assertEqual(repr(read(LINES)), before)


if __name__ == "__main__":
    unittest.main()
