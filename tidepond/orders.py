"""Orders: the lines that a desk is told, read to their first word and the values of those behind it."""

from tidepond.errors import NoLine
from tidepond.words import is_count, values_of

MOST_FIGURES = 13
MOST_TURNS = 40
MOST_WORKS = 20
MOST_AMOUNT = 1000000
# What the words behind an order's first one must be.
ORDERS = {
    "turn": (),
    "gates": (),
    "sea": (),
    "levels": (),
    "show": (),
    "tides": (),
    "go": ("setting", "running"),
    "most": ("turns",),
    "soonest": ("amount", "last"),
    "works": ("work",),
    "do": ("turns",),
}


def number_of(word, least, greatest):
    if not is_count(word, MOST_FIGURES):
        return None
    number = int(word)
    return number if least <= number <= greatest else None


def truths_of(word, many, sign):
    # Of no gates or wheels there would be a word without signs, so a sign of its own stands for it.
    if many == 0:
        return () if word == "-" else None
    if len(word) != many or not all([each in (sign, "s") for each in word]):
        return None
    return tuple([each == sign for each in word])


def work_of(word, turn):
    parts = word.split(":")
    if len(parts) != 2:
        return None
    amount = number_of(parts[0], 1, MOST_AMOUNT)
    due = number_of(parts[1], turn + 1, turn + MOST_TURNS)
    return None if amount is None or due is None else (amount, due)


def meaning(word, kind, mill, turn):
    # None where the word is none of its kind.
    if kind == "setting":
        return truths_of(word, len(mill[2]), "o")
    if kind == "running":
        return truths_of(word, len(mill[3]), "r")
    if kind == "turns":
        return number_of(word, 0, MOST_TURNS)
    if kind == "last":
        return number_of(word, turn, turn + MOST_TURNS)
    if kind == "work":
        return work_of(word, turn)
    return int(word) if is_count(word, MOST_FIGURES) else None


def kinds_of(words):
    kinds = ORDERS[words[0]]
    if words[0] == "works":
        # One work is due; what further words there are must be works too, up to the most of them.
        return kinds * max(1, min(len(words) - 1, MOST_WORKS))
    return kinds


def order_of(line, mill, turn):
    words = line.split(" ")
    if words[0] not in ORDERS:
        raise NoLine(0, 0)
    return (words[0], values_of(words, kinds_of(words), lambda word, kind: meaning(word, kind, mill, turn), 0))
