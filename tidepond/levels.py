"""Levels: how high water stands, as exact fractions, and the fall from side to side."""

from tidepond.mills import is_sea
from tidepond.seas import sea_at
from tidepond.wholes import greatest_divisor


def fraction(top, under):
    shared = greatest_divisor(abs(top), under)
    return (top // shared, under // shared)


def level(pond, content):
    return fraction(pond[2] * pond[1] + content, pond[1])


def side_level(mill, contents, side, turn):
    if is_sea(side):
        return (sea_at(mill[0], turn), 1)
    return level(mill[1][side], contents[side])


def fall_of(mill, contents, one, other, turn):
    high = side_level(mill, contents, one, turn)
    low = side_level(mill, contents, other, turn)
    return fraction(high[0] * low[1] - low[0] * high[1], high[1] * low[1])


def at_least(one, other):
    return one[0] * other[1] >= other[0] * one[1]
