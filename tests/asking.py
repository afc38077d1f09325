"""How the tests ask: what is handed in must stay as it was, and asking again must tell the same."""

import unittest

from tidepond.errors import MillError, NoContent, NoLine, NoMill, NoTime

# Whole numbers that are handed in have at most sixty figures.
FAR = 10 ** 60 - 1
LAST_TURN = 10 ** 12
FIELDS = {NoMill: ("word", "number"), NoLine: ("line", "word"), NoContent: ("pond",), NoTime: ("due", "most")}


def refusal_of(error):
    # Its very class, so that one under another is not taken for it.
    kind = type(error)
    return (kind.__name__, *[getattr(error, field) for field in FIELDS[kind]])


class Asking(unittest.TestCase):
    def ask(self, function, *handed):
        before = repr(handed)
        told = function(*handed)
        self.assertEqual(repr(handed), before)
        again = function(*handed)
        self.assertEqual(repr(again), repr(told))
        self.assertEqual(repr(handed), before)
        return told

    def tells(self, expected, function, *handed):
        # By repr, so that True is not taken for 1 nor a list for a tuple.
        self.assertEqual(repr(self.ask(function, *handed)), repr(expected))

    def refuses(self, expected, function, *handed):
        before = repr(handed)
        for time in range(2):
            with self.assertRaises(MillError) as caught:
                function(*handed)
            self.assertEqual(repr(refusal_of(caught.exception)), repr(expected))
            self.assertEqual(repr(handed), before)
