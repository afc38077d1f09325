"""Reading: lines to the mill and the contents of which they are the text."""

from tidepond.errors import NoContent, NoLine
from tidepond.mills import holds, right_mill
from tidepond.words import is_count, values_of

MOST_FIGURES = 7
# Which lines may follow which one; None stands for the place ahead of the first line.
FOLLOWERS = {
    None: ("tide",),
    "tide": ("ring", "pond"),
    "ring": ("ring", "pond"),
    "pond": ("pond", "gate", "wheel"),
    "gate": ("gate", "wheel"),
    "wheel": ("wheel",),
}
# What the words behind a line's first one must be.
FORMS = {
    "tide": ("number",),
    "ring": ("number", "number"),
    "pond": ("name", "number", "number", "number", "number"),
    "gate": ("side", "side", "number", "number"),
    "wheel": ("pond", "side", "number", "number", "number"),
}


def is_number(word):
    if word.startswith("-"):
        # 0 is not below 0, so no - stands ahead of it.
        return word != "-0" and is_count(word[1:], MOST_FIGURES)
    return is_count(word, MOST_FIGURES)


def form_of(words):
    form = FORMS[words[0]]
    if words[0] == "ring":
        # One height is due; what further words there are must be heights too.
        return form + ("number",) * (len(words) - 1 - len(form))
    return form


def value_of(word, kind, names):
    # None where the word is none of its kind.
    if kind == "name":
        return word
    if kind == "number":
        return int(word) if is_number(word) else None
    # Even where a pond is called sea: its name is refused only once all lines are read.
    if word == "sea":
        return -1 if kind == "side" else None
    return names.index(word) if word in names else None


def row_of(words, names, line):
    return values_of(words, form_of(words), lambda word, kind: value_of(word, kind, names), line)


def rows_of(lines):
    rows = {"tide": [], "ring": [], "pond": [], "gate": [], "wheel": []}
    ahead = None
    for number, line in enumerate(lines):
        words = line.split(" ")
        if words[0] not in FOLLOWERS[ahead]:
            raise NoLine(number, 0)
        ahead = words[0]
        names = [pond[0] for pond in rows["pond"]]
        rows[ahead].append(row_of(words, names, number))
    if len(rows["pond"]) == 0:
        raise NoLine(len(lines), 0)
    return rows


def mill_of(rows):
    sea = (rows["tide"][0][0], tuple([(row[0], row[1:]) for row in rows["ring"]]))
    ponds = tuple([row[:4] for row in rows["pond"]])
    return (sea, ponds, tuple(rows["gate"]), tuple(rows["wheel"]))


def check_contents(ponds, contents):
    for number, content in enumerate(contents):
        if not 0 <= content <= holds(ponds[number]):
            raise NoContent(number)


def read(lines):
    rows = rows_of(lines)
    mill = mill_of(rows)
    contents = tuple([row[4] for row in rows["pond"]])
    right_mill(mill)
    check_contents(mill[1], contents)
    return (mill, contents)
