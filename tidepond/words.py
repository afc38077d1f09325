"""Words: counts written by figures, and the values of a line's words, or NoLine for the first that is none there."""

from tidepond.errors import NoLine

FIGURES = "0123456789"


def is_count(word, figures):
    if not 1 <= len(word) <= figures or not all([sign in FIGURES for sign in word]):
        return False
    return word == "0" or not word.startswith("0")


def values_of(words, form, value_of, line):
    # What the words behind the first one must be is told by form; value_of(word, kind) is None where it is not that.
    values = []
    for number, kind in enumerate(form, start=1):
        value = value_of(words[number], kind) if number < len(words) else None
        if value is None:
            raise NoLine(line, number)
        values.append(value)
    if len(words) > len(form) + 1:
        raise NoLine(line, len(form) + 1)
    return tuple(values)
