"""Turns: what the open gates and the wheels that are let run do in one turn."""

from tidepond.flows import can_turn, passing, shifted


def gates_done(mill, contents, turn, setting):
    log = []
    for gate, opened in enumerate(setting):
        passed = passing(mill, contents, turn, gate) if opened else None
        if passed is not None:
            contents = shifted(contents, passed[0], passed[1], passed[2])
            log.append(("gate", gate) + passed)
    return (contents, log)


def wheels_done(mill, contents, turn, running):
    log = []
    ground = 0
    for wheel, let_run in enumerate(running):
        if let_run and can_turn(mill, contents, turn, wheel):
            row = mill[3][wheel]
            contents = shifted(contents, row[0], row[1], row[3])
            log.append(("wheel", wheel))
            ground += row[4]
    return (contents, log, ground)


def turned(mill, contents, turn, setting, running):
    gates = gates_done(mill, contents, turn, setting)
    wheels = wheels_done(mill, gates[0], turn, running)
    return (wheels[0], gates[1] + wheels[1], wheels[2])
