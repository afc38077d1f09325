"""A plain reckoning of levels, gates, wheels, turns and runs, to hold the program against, and many small mills.

It takes nothing from the program: heights are Python's own fractions, and what passes is searched for."""

import random
from fractions import Fraction

SEA = -1


def height(mill, contents, side, turn):
    if side == SEA:
        base, rings = mill[0]
        return Fraction(base + sum(heights[(turn + shift) % len(heights)] for shift, heights in rings))
    name, area, bottom, rim = mill[1][side]
    return bottom + Fraction(contents[side], area)


def room_of(mill, side):
    name, area, bottom, rim = mill[1][side]
    return area * (rim - bottom)


def moved(contents, one, other, buckets):
    # The sea stands behind all ponds, at -1, and is left off again.
    stands = list(contents) + [0]
    stands[one] -= buckets
    stands[other] += buckets
    return tuple(stands[:-1])


def stands_right(mill, contents):
    return all(0 <= content <= room_of(mill, side) for side, content in enumerate(contents))


def may_pass(mill, contents, turn, giving, taking, sill, buckets):
    behind = moved(contents, giving, taking, buckets)
    given = height(mill, behind, giving, turn)
    return stands_right(mill, behind) and given >= height(mill, behind, taking, turn) and given >= sill


def plain_passing(mill, contents, turn, gate):
    one, other, sill, rate = mill[2][gate]
    heights = {side: height(mill, contents, side, turn) for side in (one, other)}
    if heights[one] == heights[other] or max(heights.values()) <= sill:
        return None
    giving, taking = (one, other) if heights[one] > heights[other] else (other, one)
    for buckets in range(rate, 0, -1):
        if may_pass(mill, contents, turn, giving, taking, sill, buckets):
            return (giving, taking, buckets)
    return None


def plain_can_turn(mill, contents, turn, wheel):
    pond, tail, fall, drink, grind = mill[3][wheel]
    if height(mill, contents, pond, turn) - height(mill, contents, tail, turn) < fall:
        return False
    return stands_right(mill, moved(contents, pond, tail, drink))


def plain_turned(mill, contents, turn, setting, running):
    log = []
    ground = 0
    for gate in range(len(mill[2])):
        passed = plain_passing(mill, contents, turn, gate)
        if setting[gate] and passed:
            log.append(("gate", gate, passed[0], passed[1], passed[2]))
            contents = moved(contents, *passed)
    for wheel, (pond, tail, fall, drink, grind) in enumerate(mill[3]):
        if running[wheel] and plain_can_turn(mill, contents, turn, wheel):
            log.append(("wheel", wheel))
            contents = moved(contents, pond, tail, drink)
            ground += grind
    return (contents, log, ground)


def plain_run(mill, contents, turn, plan):
    done = []
    for setting, running in plan:
        done.append(plain_turned(mill, contents, turn + len(done), setting, running))
        contents = done[-1][0]
    return done


def small_mill(draw):
    rings = tuple((draw.randrange(5), tuple(draw.randint(-3, 4) for height in range(draw.randint(1, 4))))
                  for ring in range(draw.randint(0, 2)))
    ponds = []
    for name in "abc"[:draw.randint(1, 3)]:
        bottom = draw.randint(-3, 2)
        ponds.append((name, draw.choice((1, 2, 3, 4, 6)), bottom, bottom + draw.randint(1, 4)))
    sides = range(-1, len(ponds))
    gates = tuple((*draw.sample(sides, 2), draw.randint(-4, 3), draw.choice((1, 2, 3, 5, 20)))
                  for gate in range(draw.randint(0, 3)))
    wheels = []
    for wheel in range(draw.randint(0, 3)):
        pond = draw.randrange(len(ponds))
        tail = draw.choice([side for side in sides if side != pond])
        wheels.append((pond, tail, draw.randint(1, 3), draw.choice((1, 2, 3, 5)), draw.choice((1, 4, 7))))
    return ((draw.randint(-2, 3), rings), tuple(ponds), gates, tuple(wheels))


def small_mills(many):
    # Drawn from fixed seeds, so that every run of the tests sees the same mills.
    for seed in range(many):
        draw = random.Random(seed)
        mill = small_mill(draw)
        yield draw, mill, tuple(draw.randint(0, room_of(mill, side)) for side in range(len(mill[1])))


def truths(draw, many):
    return tuple(draw.random() < 0.7 for each in range(many))


def plan_of(draw, mill, turns):
    return [(truths(draw, len(mill[2])), truths(draw, len(mill[3]))) for turn in range(turns)]
