"""Flows: what passes through a gate, whether a wheel can turn, and what stands in the ponds behind it."""

from tidepond.levels import at_least, fall_of, side_level
from tidepond.mills import holds, is_sea


def room(mill, contents, pond):
    return holds(mill[1][pond]) - contents[pond]


def down_to(pond, content, height):
    # A height below the bottom gives more than there is: what the pond has is a bound of its own.
    return content - pond[1] * (height - pond[2])


def until_even(mill, contents, turn, giving, taking):
    fall = fall_of(mill, contents, giving, taking, turn)
    areas = [mill[1][side][1] for side in (giving, taking) if not is_sea(side)]
    # A bucket lessens the fall by 1 / area at each side that is a pond, and by nothing at the sea.
    if len(areas) == 1:
        return fall[0] * areas[0] // fall[1]
    return fall[0] * areas[0] * areas[1] // (fall[1] * (areas[0] + areas[1]))


def most_buckets(mill, contents, turn, gate, giving, taking):
    # Every bound that holds for a number holds for all lesser ones, so the least bound is the greatest number.
    bounds = [gate[3], until_even(mill, contents, turn, giving, taking)]
    if not is_sea(giving):
        bounds.append(contents[giving])
        bounds.append(down_to(mill[1][giving], contents[giving], gate[2]))
    if not is_sea(taking):
        bounds.append(room(mill, contents, taking))
    return min(bounds)


def passing(mill, contents, turn, gate):
    row = mill[2][gate]
    fall = fall_of(mill, contents, row[0], row[1], turn)
    if fall[0] == 0:
        return None
    giving = row[0] if fall[0] > 0 else row[1]
    taking = row[1] if fall[0] > 0 else row[0]
    if at_least((row[2], 1), side_level(mill, contents, giving, turn)):
        return None
    buckets = most_buckets(mill, contents, turn, row, giving, taking)
    if buckets < 1:
        return None
    return (giving, taking, buckets)


def can_turn(mill, contents, turn, wheel):
    row = mill[3][wheel]
    drink = row[3]
    if not at_least(fall_of(mill, contents, row[0], row[1], turn), (row[2], 1)):
        return False
    if contents[row[0]] < drink:
        return False
    return is_sea(row[1]) or room(mill, contents, row[1]) >= drink


def shifted(contents, one, other, buckets):
    behind = list(contents)
    if not is_sea(one):
        behind[one] -= buckets
    if not is_sea(other):
        behind[other] += buckets
    return tuple(behind)
