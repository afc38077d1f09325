"""The sea: its height by rings that turn, its rounds, its bounds, and when it reaches a height."""

from tidepond.wholes import least_multiple


def ring_at(ring, turn):
    heights = ring[1]
    return heights[(turn + ring[0]) % len(heights)]


def sea_at(sea, turn):
    return sea[0] + sum([ring_at(ring, turn) for ring in sea[1]])


def whole_round(sea):
    turns = 1
    for ring in sea[1]:
        turns = least_multiple(turns, len(ring[1]))
    return turns


def round_heights(sea):
    return [sea_at(sea, turn) for turn in range(whole_round(sea))]


def round_of(sea):
    heights = round_heights(sea)
    whole = len(heights)
    for turns in range(1, whole):
        # The least round divides every other one, the whole round too, so only divisors can be it.
        if whole % turns == 0 and heights[turns:] == heights[:whole - turns]:
            return turns
    return whole


def highest(sea):
    heights = round_heights(sea)
    height = max(heights)
    return (height, heights.index(height))


def lowest(sea):
    heights = round_heights(sea)
    height = min(heights)
    return (height, heights.index(height))


def next_reach(sea, height, turn):
    # Behind one whole round only heights come that were there before.
    for later in range(turn, turn + whole_round(sea)):
        if sea_at(sea, later) >= height:
            return later
    return None
