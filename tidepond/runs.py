"""Runs: plans done turn by turn, the moves of the gates in them, and what came into and went out of a pond."""

from tidepond.turns import turned


def run(mill, contents, turn, plan):
    done = []
    for number, step in enumerate(plan):
        told = turned(mill, contents, turn + number, step[0], step[1])
        contents = told[0]
        done.append(told)
    return done


def gates_moved(ahead, setting):
    return len([gate for gate, opened in enumerate(setting) if opened != ahead[gate]])


def moves_of(setting, plan):
    moves = 0
    for step in plan:
        moves += gates_moved(setting, step[0])
        setting = step[0]
    return moves


def flow_of(mill, row):
    if row[0] == "gate":
        return row[2:]
    # A wheel's row tells no water: its drink goes from its pond to its tail, and never another number.
    wheel = mill[3][row[1]]
    return (wheel[0], wheel[1], wheel[3])


def balance(mill, pond, logs):
    came = 0
    went = 0
    for log in logs:
        for row in log:
            flow = flow_of(mill, row)
            if flow[0] == pond:
                went += flow[2]
            if flow[1] == pond:
                came += flow[2]
    return (came, went)
