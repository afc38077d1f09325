"""Layers: what can be reached turn by turn, with the most ground and, with so much, the fewest moves."""

from tidepond.runs import gates_moved
from tidepond.turns import gates_done, wheels_done


def truths(many):
    rows = [()]
    for place in range(many):
        rows = [(False,) + row for row in rows] + [(True,) + row for row in rows]
    return rows


def worth(found):
    # What is found begins with ground and moves: more ground is better, and with as much, fewer moves.
    return (found[0], -found[1])


def by_contents(layer):
    grouped = {}
    for state in layer:
        grouped.setdefault(state[0], []).append(state)
    return grouped


def best_start(states, setting):
    # From one pair of contents and setting all go the same ways, so the best that is brought there is enough.
    return max([(state[2], state[3] + gates_moved(state[1], setting), state[:2]) for state in states], key=worth)


def wheel_ways(mill, contents, turn):
    # To the same contents only the running that grinds the most can be of use.
    ways = {}
    for running in truths(len(mill[3])):
        done = wheels_done(mill, contents, turn, running)
        if done[0] not in ways or done[2] > ways[done[0]][0]:
            ways[done[0]] = (done[2], running)
    return ways


def arrivals(mill, turn, layer):
    # For each pair of contents and setting: (ground, moves, the pair ahead of it, the running that led here).
    found = {}
    ways = {}
    settings = truths(len(mill[2]))
    for contents, states in by_contents(layer).items():
        for setting in settings:
            start = best_start(states, setting)
            between = gates_done(mill, contents, turn, setting)[0]
            if between not in ways:
                ways[between] = wheel_ways(mill, between, turn)
            for behind, way in ways[between].items():
                arrival = (start[0] + way[0], start[1], start[2], way[1])
                pair = (behind, setting)
                if pair not in found or worth(arrival) > worth(found[pair]):
                    found[pair] = arrival
    return found


def states_of(found):
    return sorted([pair + arrival[:2] for pair, arrival in found.items()])


def next_layer(mill, turn, layer):
    return states_of(arrivals(mill, turn, layer))


def first_layer(contents, setting):
    return [(contents, setting, 0, 0)]


def layers(mill, contents, setting, turn, turns):
    told = [first_layer(contents, setting)]
    for later in range(turn, turn + turns):
        told.append(next_layer(mill, later, told[-1]))
    return told
