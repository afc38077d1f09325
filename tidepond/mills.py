"""Mills: names, what ponds hold, and whether a mill is right."""

from tidepond.errors import NoMill
from tidepond.seas import whole_round

LETTERS = "abcdefghijklmnopqrstuvwxyz"
MOST_RINGS = 4
MOST_PONDS = 3
MOST_GATES = 3
MOST_WHEELS = 3
MOST_HEIGHTS = 60
LONGEST_ROUND = 5040


def is_name(word):
    # A side is written as a pond's name or as sea, so no pond may be called so.
    if word == "sea" or not 1 <= len(word) <= 8:
        return False
    return all([sign in LETTERS for sign in word])


def holds(pond):
    return pond[1] * (pond[3] - pond[2])


def is_height(number):
    return -1000 <= number <= 1000


def is_rate(number):
    return 1 <= number <= 1000


def is_pond(number, ponds):
    return 0 <= number < len(ponds)


def is_sea(side):
    return side == -1


def is_side(number, ponds):
    return is_sea(number) or is_pond(number, ponds)


def right_ring(rings, number):
    if number >= MOST_RINGS:
        return False
    shift = rings[number][0]
    heights = rings[number][1]
    if not 0 <= shift <= 1000 or not 1 <= len(heights) <= MOST_HEIGHTS:
        return False
    if not all([is_height(height) for height in heights]):
        return False
    return whole_round((0, rings[:number + 1])) <= LONGEST_ROUND


def right_pond(ponds, number):
    if number >= MOST_PONDS:
        return False
    pond = ponds[number]
    if not is_name(pond[0]) or pond[0] in [earlier[0] for earlier in ponds[:number]]:
        return False
    if not 1 <= pond[1] <= 100:
        return False
    return is_height(pond[2]) and is_height(pond[3]) and pond[2] < pond[3]


def right_gate(gates, number, ponds):
    if number >= MOST_GATES:
        return False
    gate = gates[number]
    if not is_side(gate[0], ponds) or not is_side(gate[1], ponds) or gate[0] == gate[1]:
        return False
    return is_height(gate[2]) and is_rate(gate[3])


def right_wheel(wheels, number, ponds):
    if number >= MOST_WHEELS:
        return False
    wheel = wheels[number]
    if not is_pond(wheel[0], ponds) or not is_side(wheel[1], ponds) or wheel[0] == wheel[1]:
        return False
    return 1 <= wheel[2] <= 2000 and is_rate(wheel[3]) and is_rate(wheel[4])


def check_sea(sea):
    if not is_height(sea[0]):
        raise NoMill("tide", 0)
    for number in range(len(sea[1])):
        if not right_ring(sea[1], number):
            raise NoMill("ring", number)


def check_ponds(ponds):
    if len(ponds) == 0:
        raise NoMill("pond", 0)
    for number in range(len(ponds)):
        if not right_pond(ponds, number):
            raise NoMill("pond", number)


def check_gates(gates, ponds):
    for number in range(len(gates)):
        if not right_gate(gates, number, ponds):
            raise NoMill("gate", number)


def check_wheels(wheels, ponds):
    for number in range(len(wheels)):
        if not right_wheel(wheels, number, ponds):
            raise NoMill("wheel", number)


def right_mill(mill):
    ponds = mill[1]
    check_sea(mill[0])
    check_ponds(ponds)
    check_gates(mill[2], ponds)
    check_wheels(mill[3], ponds)
    return True
