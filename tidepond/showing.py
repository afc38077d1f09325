"""Showing: a mill with its contents, written as lines."""

from tidepond.mills import is_sea


def side_name(ponds, side):
    return "sea" if is_sea(side) else ponds[side][0]


def line_of(words):
    return " ".join([str(word) for word in words])


def between_line(word, ponds, row):
    # Gates and wheels alike begin with two sides; a wheel's first one is never the sea.
    return line_of((word, side_name(ponds, row[0]), side_name(ponds, row[1])) + row[2:])


def shown(mill, contents):
    sea = mill[0]
    ponds = mill[1]
    lines = [line_of(("tide", sea[0]))]
    lines.extend([line_of(("ring", ring[0]) + ring[1]) for ring in sea[1]])
    lines.extend([line_of(("pond",) + pond + (contents[number],)) for number, pond in enumerate(ponds)])
    lines.extend([between_line("gate", ponds, gate) for gate in mill[2]])
    lines.extend([between_line("wheel", ponds, wheel) for wheel in mill[3]])
    return lines
