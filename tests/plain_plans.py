"""A plain search through plans, to hold layers, the most, works and the soonest turn against.

It takes nothing from the program, and leaves no state out for a better one: all that any plan comes to is kept."""

import collections
import itertools
import random

from plain import SEA, plain_run, plain_turned, room_of, small_mills, truths


def all_truths(many):
    return list(itertools.product((False, True), repeat=many))


def size_of(mill):
    size = 2 ** len(mill[2])
    for pond in range(len(mill[1])):
        size *= room_of(mill, pond) + 1
    return size


def bounded_mills(many, most):
    # Of so many small mills those that are not above this size, each with a setting to begin from.
    for draw, mill, contents in small_mills(many):
        if size_of(mill) <= most:
            yield draw, mill, contents, truths(draw, len(mill[2]))


def tidal_mill(draw):
    # Its ponds lie within the tide and drain to the sea, so that much hangs on when which gate is open.
    def gate(one, other):
        return (one, other, draw.randint(-3, 1), draw.randint(1, 4))

    def wheel(pond):
        return (pond, SEA, draw.randint(1, 3), draw.randint(1, 3), draw.randint(1, 5))

    heights = tuple(draw.choice((-4, -3, -1, 0, 2, 3, 4)) for height in range(draw.randint(2, 6)))
    rings = ((draw.randrange(9), heights), (draw.randrange(9), (0, draw.randint(-1, 1))))
    many = draw.randint(1, 2)
    ponds = tuple((name, draw.randint(1, 3), -2, draw.randint(0, 2)) for name in "ab"[:many])
    gates = [gate(SEA, 0), gate(many - 1, SEA)] + [gate(0, 1)] * (many - 1)
    draw.shuffle(gates)
    wheels = tuple(wheel(draw.randrange(many)) for number in range(draw.randint(1, 2)))
    sea = (draw.randint(-1, 1), rings[:draw.randint(1, 2)])
    return (sea, ponds, tuple(gates[:draw.randint(1, 3)]), wheels)


def choosing_mill(draw):
    # Water that a weak wheel takes early is not there for the strong one, which needs a lower sea.
    sea = (0, ((draw.randrange(5), tuple(draw.choice((0, -1, -4)) for height in range(draw.randint(2, 5)))),))
    weak = (0, SEA, 1, draw.randint(1, 2), draw.randint(1, 3))
    strong = (0, SEA, 4, draw.randint(1, 3), draw.randint(4, 9))
    wheels = (weak, strong) if draw.random() < 0.5 else (strong, weak)
    gates = ((SEA, 0, draw.randint(0, 2), 1),)[:draw.randint(0, 1)]
    return (sea, (("a", 1, 0, draw.randint(2, 5)),), gates, wheels)


def mills_of(one_mill, many):
    for seed in range(many):
        draw = random.Random(seed)
        mill = one_mill(draw)
        contents = tuple(draw.randint(0, room_of(mill, pond)) for pond in range(len(mill[1])))
        yield draw, mill, contents, truths(draw, len(mill[2]))


def tidal_mills(many):
    return mills_of(tidal_mill, many)


def choosing_mills(many):
    return mills_of(choosing_mill, many)


def moved_between(ahead, setting):
    return sum(one != other for one, other in zip(ahead, setting))


def all_next(mill, turn, states):
    ways = {}
    reached = set()
    for contents, ahead, ground, moves in states:
        if contents not in ways:
            ways[contents] = [(setting, plain_turned(mill, contents, turn, setting, running))
                              for setting in all_truths(len(mill[2])) for running in all_truths(len(mill[3]))]
        for setting, (behind, log, more) in ways[contents]:
            reached.add((behind, setting, ground + more, moves + moved_between(ahead, setting)))
    return reached


def all_reached(mill, contents, setting, turn, turns):
    reached = [{(contents, setting, 0, 0)}]
    for later in range(turn, turn + turns):
        reached.append(all_next(mill, later, reached[-1]))
    return reached


def layer_of(states):
    pairs = collections.defaultdict(list)
    for state in states:
        pairs[state[:2]].append(state[2:])
    layer = []
    for pair in sorted(pairs):
        ground = max(found[0] for found in pairs[pair])
        layer.append((*pair, ground, min(found[1] for found in pairs[pair] if found[0] == ground)))
    return layer


def best_of(states):
    ground = max(state[2] for state in states)
    return (ground, min(state[3] for state in states if state[2] == ground))


def plain_dues(works):
    needed = {due: sum(amount for amount, other in works if other <= due) for most, due in works}
    return sorted(needed.items())


def plain_planned(mill, contents, setting, turn, works):
    # (ground, moves), or the refusal.
    states = {(contents, setting, 0, 0)}
    for due, amount in plain_dues(works):
        while turn < due:
            states = all_next(mill, turn, states)
            turn += 1
        meeting = {state for state in states if state[2] >= amount}
        if not meeting:
            return ("NoTime", due, max(state[2] for state in states))
        states = meeting
    return best_of(states)


def plain_soonest(mill, contents, setting, turn, amount, last):
    for later, states in enumerate(all_reached(mill, contents, setting, turn, last - turn), start=turn):
        if max(state[2] for state in states) >= amount:
            return later
    return None


def all_plans(mill, turns):
    steps = list(itertools.product(all_truths(len(mill[2])), all_truths(len(mill[3]))))
    return itertools.product(steps, repeat=turns)


def turns_for(mill, many):
    # The most turns of which there are no more than so many plans, four at most.
    steps = 2 ** (len(mill[2]) + len(mill[3]))
    return max(turns for turns in range(5) if steps ** turns <= many)


def ground_and_moves(mill, contents, setting, turn, plan):
    # How much is ground behind each turn of the plan, from none on, and all its moves.
    done = plain_run(mill, contents, turn, plan)
    settings = [setting] + [step[0] for step in plan]
    moves = sum(moved_between(ahead, behind) for ahead, behind in zip(settings, settings[1:]))
    return ([0, *itertools.accumulate(ground for behind, log, ground in done)], moves)


def each_plan(mill, contents, setting, turn, turns):
    return [ground_and_moves(mill, contents, setting, turn, plan) for plan in all_plans(mill, turns)]


def most_of_plans(runs):
    ground = max(grounds[-1] for grounds, moves in runs)
    return (ground, min(moves for grounds, moves in runs if grounds[-1] == ground))


def meets(grounds, turn, works, due):
    # Whether all works with a due up to this one are met.
    needed = {work[1]: sum(amount for amount, other in works if other <= work[1]) for work in works if work[1] <= due}
    return all(grounds[by - turn] >= amount for by, amount in needed.items())


def planned_of_plans(runs, turn, works):
    for due in sorted({due for amount, due in works}):
        earlier = [grounds for grounds, moves in runs if meets(grounds, turn, works, due - 1)]
        if not any(meets(grounds, turn, works, due) for grounds in earlier):
            return ("NoTime", due, max(grounds[due - turn] for grounds in earlier))
    last = max(due for amount, due in works)
    return most_of_plans([(grounds, moves) for grounds, moves in runs if meets(grounds, turn, works, last)])
