"""The most that can be ground in so many turns, and a plan that grinds it with the fewest moves."""

from tidepond.layers import arrivals, first_layer, states_of, worth


def walked(mill, layer, turn, until):
    # The trails are kept so that a plan can be told from its end backward.
    trails = []
    for later in range(turn, until):
        found = arrivals(mill, later, layer)
        trails.append(found)
        layer = states_of(found)
    return (layer, trails)


def most_ground(layer):
    return max([state[2] for state in layer])


def best_state(layer):
    return max(layer, key=lambda state: worth(state[2:]))


def plan_to(pair, trails):
    plan = []
    for found in reversed(trails):
        arrival = found[pair]
        plan.append((pair[1], arrival[3]))
        pair = arrival[2]
    plan.reverse()
    return plan


def best_plan(layer, trails):
    state = best_state(layer)
    return state[2:] + (plan_to(state[:2], trails),)


def most(mill, contents, setting, turn, turns):
    reached = walked(mill, first_layer(contents, setting), turn, turn + turns)
    return best_plan(reached[0], reached[1])
