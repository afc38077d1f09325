"""A plain desk, by written patterns and the plain search through plans, to hold the program's desk against.

It takes nothing from the program. Behind do, of which any plan may be done, it is told where the desk stands."""

import math
import re

from plain import height, plain_turned
from plain_lines import plain_lines
from plain_plans import all_reached, best_of, plain_planned, plain_soonest

COUNT = re.compile("0|[1-9][0-9]{0,12}")
WORK = re.compile("(.*):(.*)")
NO_WORDS = ("turn", "gates", "sea", "levels", "show", "tides")
WRONG_WORDS = (
    "", "", "-", "--", "o", "s", "r", "os", "ss", "so", "sr", "rs", "oss", "rrr", "x", "O", "0", "1", "00", "01", "-1",
    "+1", "40", "41", "1000000", "9999999999999", "10000000000000", "1:", ":1", "1:1:1", "0:1", "01:1", "1:01",
    "1000001:1", "1;1", "turn", "go", "most", "works", "do", "soonest", "Turn", "tide")


def is_count(word, least, greatest):
    return bool(COUNT.fullmatch(word)) and least <= int(word) <= greatest


def is_signs(word, many, signs):
    return bool(re.fullmatch("[" + signs + "]{" + str(many) + "}", word)) if many else word == "-"


class PlainDesk:
    def __init__(self, mill, contents):
        self.mill = mill
        self.contents = contents
        self.turn = 0
        self.setting = tuple(False for gate in mill[2])
        self.ground = 0

    def fits(self):
        # For each first word how many words may follow at least and at most, and how to tell whether one is right.
        def turns(place, word):
            return is_count(word, 0, 40)

        def signs(place, word):
            return is_signs(word, len(self.mill[2]), "os") if place == 0 else is_signs(word, len(self.mill[3]), "rs")

        def amount_and_last(place, word):
            return is_count(word, 0, math.inf) if place == 0 else is_count(word, self.turn, self.turn + 40)

        def work(place, word):
            parts = WORK.fullmatch(word)
            return bool(parts) and is_count(parts[1], 1, 10 ** 6) and is_count(parts[2], self.turn + 1, self.turn + 40)

        fits = {first: (0, 0, None) for first in NO_WORDS}
        fits |= {"most": (1, 1, turns), "do": (1, 1, turns), "go": (2, 2, signs), "soonest": (2, 2, amount_and_last)}
        return fits | {"works": (1, 20, work)}

    def wrong_word(self, line):
        first, *words = re.split(" ", line)
        if first not in self.fits():
            return 0
        least, greatest, right = self.fits()[first]
        for place, word in enumerate(words[:greatest]):
            if not right(place, word):
                return place + 1
        if len(words) < least:
            return len(words) + 1
        return greatest + 1 if len(words) > greatest else None

    def states(self, turns):
        return all_reached(self.mill, self.contents, self.setting, self.turn, turns)[-1]

    def best_ends(self, turns):
        # The contents and settings to which the plans of the most come.
        return {state[:2] for state in self.states(turns) if state[2:] == best_of(self.states(turns))}

    def stand(self, contents, setting, turns, ground):
        self.contents, self.setting, self.turn, self.ground = contents, setting, self.turn + turns, self.ground + ground

    def answer(self, line):
        first, *words = line.split(" ")
        return getattr(self, "answer_" + first)(*words)

    def answer_turn(self):
        return f"{self.turn} ground {self.ground}"

    def answer_gates(self):
        return "".join("so"[opened] for opened in self.setting) or "-"

    def answer_sea(self):
        return str(height(self.mill, self.contents, -1, self.turn))

    def answer_levels(self):
        heights = [height(self.mill, self.contents, pond, self.turn) for pond in range(len(self.mill[1]))]
        return ", ".join(f"{pond[0]} {at.numerator}/{at.denominator}" for pond, at in zip(self.mill[1], heights))

    def answer_show(self):
        return ", ".join(plain_lines(self.mill, self.contents))

    def answer_tides(self):
        whole = math.lcm(*[len(heights) for shift, heights in self.mill[0][1]])
        heights = [height(self.mill, self.contents, -1, turn) for turn in range(2 * whole)]
        least = [turns for turns in range(1, whole + 1) if heights[:whole] == heights[turns:turns + whole]][0]
        high, low = max(heights), min(heights)
        return f"round {least} high {high} at {heights.index(high)} low {low} at {heights.index(low)}"

    def answer_go(self, gates, wheels):
        setting = tuple(sign == "o" for sign in gates.replace("-", ""))
        running = tuple(sign == "r" for sign in wheels.replace("-", ""))
        contents, log, ground = plain_turned(self.mill, self.contents, self.turn, setting, running)
        names = [pond[0] for pond in self.mill[1]] + ["sea"]
        rows = [f"wheel {row[1]}" if row[0] == "wheel" else f"gate {row[1]} {names[row[2]]} {names[row[3]]} {row[4]}"
                for row in log]
        self.stand(contents, setting, 1, ground)
        return ", ".join(rows) or "none"

    def answer_most(self, turns):
        ground, moves = best_of(self.states(int(turns)))
        return f"ground {ground} moves {moves}"

    def answer_soonest(self, amount, last):
        turn = plain_soonest(self.mill, self.contents, self.setting, self.turn, int(amount), int(last))
        return "never" if turn is None else str(turn)

    def answer_works(self, *words):
        works = [tuple(map(int, word.split(":"))) for word in words]
        told = plain_planned(self.mill, self.contents, self.setting, self.turn, works)
        return f"refused {told[1]} {told[2]}" if told[0] == "NoTime" else f"ground {told[0]} moves {told[1]}"

    def right_line(self, draw, turns):
        first = draw.choice(NO_WORDS + ("go",) * 6 + ("most", "soonest", "works", "works", "do"))
        if first == "go":
            gates = "".join(draw.choice("os") for gate in self.mill[2]) or "-"
            return f"go {gates} " + ("".join(draw.choice("rrs") for wheel in self.mill[3]) or "-")
        if first in ("most", "do"):
            return f"{first} {draw.randint(0, turns)}"
        if first == "soonest":
            return f"soonest {draw.choice((0, 1, 3, 5, 8))} {self.turn + draw.randint(0, turns)}"
        if first == "works":
            dues = [self.turn + draw.randint(1, turns) for work in range(draw.randint(1, 2))]
            return first + "".join(f" {draw.choice((1, 2, 4))}:{due}" for due in dues)
        return first


def spoilt_line(draw, line):
    words = line.split(" ")
    place = draw.randrange(len(words))
    way = draw.randrange(4)
    if way == 0:
        words.pop(place)
    elif way == 1:
        words.insert(draw.randint(0, len(words)), draw.choice(WRONG_WORDS))
    else:
        words[place] = draw.choice(WRONG_WORDS)
    return " ".join(words)
