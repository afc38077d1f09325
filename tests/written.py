"""Mills with contents and their lines, written out: one with all kinds of lines, and one with the greatest numbers."""

SEA = -1
MILL = (
    (-2, ((0, (4, 0, -4)), (1000, (7,)))),
    (("mere", 10, -5, 5), ("low", 4, -6, 2)),
    ((SEA, 0, -3, 20), (0, 1, 0, 5)),
    ((0, SEA, 2, 10, 3), (1, 0, 1, 2, 30)),
)
CONTENTS = (55, 0)
LINES = [
    "tide -2",
    "ring 0 4 0 -4",
    "ring 1000 7",
    "pond mere 10 -5 5 55",
    "pond low 4 -6 2 0",
    "gate sea mere -3 20",
    "gate mere low 0 5",
    "wheel mere sea 2 10 3",
    "wheel low mere 1 2 30",
]
GREATEST_MILL = (
    (1000, ((1000, (-1000,) * 60), (1000, (1000,) * 60), (0, (1000, -1000) * 30), (999, (-999,) * 60))),
    (("abcdefgh", 100, -1000, 1000), ("stuvwxyz", 100, -1000, 1000), ("zzzzzzzz", 100, -1000, 1000)),
    ((0, 1, 1000, 1000), (SEA, 2, -1000, 1000), (2, SEA, 1000, 1000)),
    ((0, 1, 2000, 1000, 1000), (2, SEA, 2000, 1000, 1000), (1, 2, 2000, 1000, 1000)),
)
GREATEST_CONTENTS = (200000, 0, 199999)
GREATEST_LINES = [
    "tide 1000",
    "ring 1000" + " -1000" * 60,
    "ring 1000" + " 1000" * 60,
    "ring 0" + " 1000 -1000" * 30,
    "ring 999" + " -999" * 60,
    "pond abcdefgh 100 -1000 1000 200000",
    "pond stuvwxyz 100 -1000 1000 0",
    "pond zzzzzzzz 100 -1000 1000 199999",
    "gate abcdefgh stuvwxyz 1000 1000",
    "gate sea zzzzzzzz -1000 1000",
    "gate zzzzzzzz sea 1000 1000",
    "wheel abcdefgh stuvwxyz 2000 1000 1000",
    "wheel zzzzzzzz sea 2000 1000 1000",
    "wheel stuvwxyz zzzzzzzz 2000 1000 1000",
]
