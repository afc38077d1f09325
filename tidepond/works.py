"""Works: what must be ground by when, a plan that meets it, and how soon an amount can be ground."""

from tidepond.errors import NoTime
from tidepond.layers import first_layer, next_layer
from tidepond.most import best_plan, most_ground, walked


def dues(works):
    told = []
    for due in sorted(set([work[1] for work in works])):
        told.append((due, sum([work[0] for work in works if work[1] <= due])))
    return told


def planned(mill, contents, setting, turn, works):
    layer = first_layer(contents, setting)
    trails = []
    for due, amount in dues(works):
        reached = walked(mill, layer, turn, due)
        # More ground is never in the way of a later due, so the layers' own states are enough here too.
        layer = [state for state in reached[0] if state[2] >= amount]
        if len(layer) == 0:
            raise NoTime(due, most_ground(reached[0]))
        trails.extend(reached[1])
        turn = due
    return best_plan(layer, trails)


def soonest(mill, contents, setting, turn, amount, last):
    layer = first_layer(contents, setting)
    for later in range(turn, last + 1):
        if later > turn:
            layer = next_layer(mill, later - 1, layer)
        if most_ground(layer) >= amount:
            return later
    return None
