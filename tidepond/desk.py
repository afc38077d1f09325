"""The desk: it keeps a mill with what stands in it, and answers lines by texts."""

from tidepond.errors import NoTime
from tidepond.levels import level
from tidepond.most import most
from tidepond.orders import order_of
from tidepond.reading import read
from tidepond.runs import run
from tidepond.seas import highest, lowest, round_of, sea_at
from tidepond.showing import line_of, shown, side_name
from tidepond.turns import turned
from tidepond.works import planned, soonest


def turn_answer(desk, values):
    return line_of((desk.turn, "ground", desk.ground))


def gates_answer(desk, values):
    if len(desk.setting) == 0:
        return "-"
    return "".join(["o" if opened else "s" for opened in desk.setting])


def sea_answer(desk, values):
    return str(sea_at(desk.mill[0], desk.turn))


def level_text(pond, content):
    height = level(pond, content)
    name = pond[0]
    top = height[0]
    under = height[1]
    return f"{name} {top}/{under}"


def levels_answer(desk, values):
    return ", ".join([level_text(pond, content) for pond, content in zip(desk.mill[1], desk.contents)])


def show_answer(desk, values):
    return ", ".join(shown(desk.mill, desk.contents))


def tides_answer(desk, values):
    sea = desk.mill[0]
    high = highest(sea)
    low = lowest(sea)
    return line_of(("round", round_of(sea), "high", high[0], "at", high[1], "low", low[0], "at", low[1]))


def row_text(ponds, row):
    if row[0] == "wheel":
        return line_of(row)
    return line_of(row[:2] + (side_name(ponds, row[2]), side_name(ponds, row[3]), row[4]))


def go_answer(desk, values):
    told = turned(desk.mill, desk.contents, desk.turn, values[0], values[1])
    desk.stand_behind(values[0], told)
    if len(told[1]) == 0:
        return "none"
    return ", ".join([row_text(desk.mill[1], row) for row in told[1]])


def best_text(told):
    return line_of(("ground", told[0], "moves", told[1]))


def most_answer(desk, values):
    return best_text(most(desk.mill, desk.contents, desk.setting, desk.turn, values[0]))


def soonest_answer(desk, values):
    turn = soonest(desk.mill, desk.contents, desk.setting, desk.turn, values[0], values[1])
    return "never" if turn is None else str(turn)


def works_answer(desk, values):
    try:
        return best_text(planned(desk.mill, desk.contents, desk.setting, desk.turn, list(values)))
    except NoTime as refusal:
        return line_of(("refused", refusal.due, refusal.most))


def do_answer(desk, values):
    told = most(desk.mill, desk.contents, desk.setting, desk.turn, values[0])
    for step, done in zip(told[2], run(desk.mill, desk.contents, desk.turn, told[2])):
        desk.stand_behind(step[0], done)
    return best_text(told)


ANSWERS = {
    "turn": turn_answer,
    "gates": gates_answer,
    "sea": sea_answer,
    "levels": levels_answer,
    "show": show_answer,
    "tides": tides_answer,
    "go": go_answer,
    "most": most_answer,
    "soonest": soonest_answer,
    "works": works_answer,
    "do": do_answer,
}


class Desk:
    def __init__(self, lines):
        told = read(lines)
        self.mill = told[0]
        self.contents = told[1]
        self.turn = 0
        self.setting = tuple([False for gate in self.mill[2]])
        self.ground = 0

    def say(self, line):
        order = order_of(line, self.mill, self.turn)
        return ANSWERS[order[0]](self, order[1])

    def stand_behind(self, setting, done):
        self.contents = done[0]
        self.setting = setting
        self.turn += 1
        self.ground += done[2]
