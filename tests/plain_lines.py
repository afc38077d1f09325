"""A plain reading of lines, by written patterns, to hold the program against, and many lines, right and wrong.

Of the program it takes only whether a mill is right, which has tests of its own."""

import re

from asking import refusal_of
from plain import room_of, small_mills
from tidepond.errors import NoMill
from tidepond.mills import right_mill

NUMBER = re.compile("0|-?[1-9][0-9]{0,6}")
# The first letters of the lines so far: a part of a whole text, from its beginning on.
ORDER = re.compile("t(r*|r*p+g*w*)")
KINDS = {"tide": "n", "pond": "annnn", "gate": "ssnn", "wheel": "psnnn"}
WORDS = (
    "", "", "0", "1", "7", "-7", "-0", "00", "07", "-07", "+7", "7-", "1-1", "--1", "-", "7.0", "1e3", "1_0", "0x1",
    "1000", "1001", "-1000", "-1001", "2000", "2001", "5040", "9999999", "10000000", "-9999999", "-10000000",
    "a", "b", "c", "d", "A", "aa", "ninesigns", "sea", "tide", "ring", "pond", "gate", "wheel")


def word_fits(word, kind, names):
    return {"n": NUMBER.fullmatch(word), "a": True, "s": word == "sea" or word in names,
            "p": word != "sea" and word in names}[kind]


def wrong_word(firsts, words, names):
    if words[0] not in ("tide", "ring", "pond", "gate", "wheel") or not ORDER.fullmatch(firsts + words[0][0]):
        return 0
    kinds = KINDS.get(words[0]) or "n" * max(2, len(words) - 1)
    right = [word_fits(word, kind, names) for word, kind in zip(words[1:], kinds)]
    if not all(right):
        return 1 + [bool(fit) for fit in right].index(False)
    return None if len(words) == 1 + len(kinds) else min(len(words), 1 + len(kinds))


def wrong_line(lines):
    firsts = ""
    names = []
    for number, line in enumerate(lines):
        words = re.split(" ", line)
        wrong = wrong_word(firsts, words, names)
        if wrong is not None:
            return ("NoLine", number, wrong)
        firsts += words[0][0]
        names += words[1:2] if words[0] == "pond" else []
    return None if names else ("NoLine", len(lines), 0)


def rows_like(lines, first):
    return [line.split(" ")[1:] for line in lines if line.split(" ")[0] == first]


def plain_mill(lines):
    names = [row[0] for row in rows_like(lines, "pond")]
    sides = {name: names.index(name) for name in names} | {"sea": -1}
    rings = tuple((int(shift), tuple(map(int, heights))) for shift, *heights in rows_like(lines, "ring"))
    ponds = tuple((name, *map(int, rest[:3])) for name, *rest in rows_like(lines, "pond"))
    gates, wheels = [tuple((sides[one], sides[other], *map(int, rest)) for one, other, *rest in rows_like(lines, first))
                     for first in ("gate", "wheel")]
    return ((int(rows_like(lines, "tide")[0][0]), rings), ponds, gates, wheels)


def plain_read(lines):
    wrong = wrong_line(lines)
    if wrong:
        return wrong
    mill = plain_mill(lines)
    try:
        right_mill(mill)
    except NoMill as error:
        return refusal_of(error)
    contents = tuple(int(row[4]) for row in rows_like(lines, "pond"))
    for pond, content in enumerate(contents):
        if content not in range(room_of(mill, pond) + 1):
            return ("NoContent", pond)
    return (mill, contents)


def plain_lines(mill, contents):
    names = [pond[0] for pond in mill[1]] + ["sea"]
    rows = [("tide", mill[0][0])]
    rows += [("ring", shift, *heights) for shift, heights in mill[0][1]]
    rows += [("pond", *pond, content) for pond, content in zip(mill[1], contents)]
    rows += [("gate", names[one], names[other], *rest) for one, other, *rest in mill[2]]
    rows += [("wheel", names[pond], names[tail], *rest) for pond, tail, *rest in mill[3]]
    return [" ".join(map(str, row)) for row in rows]


def spoilt(draw, lines):
    lines = list(lines)
    place = draw.randrange(len(lines))
    words = lines[place].split(" ")
    word = draw.randrange(len(words))
    way = draw.randrange(8)
    if way < 3:
        words[word] = draw.choice(WORDS)
    elif way == 3:
        words.insert(draw.randint(0, len(words)), draw.choice(WORDS))
    elif way == 4:
        words.pop(word)
    if way < 5:
        lines[place] = " ".join(words)
    elif way == 5:
        lines.insert(draw.randint(0, len(lines)), lines[place])
    elif way == 6:
        lines.insert(draw.randint(0, len(lines) - 1), lines.pop(place))
    else:
        lines.pop(place)
    return lines


def many_lines(many):
    for draw, mill, contents in small_mills(many):
        lines = plain_lines(mill, contents)
        yield lines
        for time in range(12):
            wrong = spoilt(draw, lines)
            yield wrong
            if wrong:
                yield spoilt(draw, wrong)
