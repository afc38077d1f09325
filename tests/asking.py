"""How the tests ask: what is handed in must stay as it was, and asking again must tell the same."""

import unittest

from tidepond.errors import NoMill

# Whole numbers that are handed in have at most sixty figures.
FAR = 10 ** 60 - 1
LAST_TURN = 10 ** 12


class Asking(unittest.TestCase):
    def ask(self, function, *handed):
        before = repr(handed)
        told = function(*handed)
        self.assertEqual(repr(handed), before)
        again = function(*handed)
        self.assertEqual(repr(again), repr(told))
        self.assertEqual(repr(handed), before)
        return told

    def tells(self, expected, function, *handed):
        # By repr, so that True is not taken for 1 nor a list for a tuple.
        self.assertEqual(repr(self.ask(function, *handed)), repr(expected))

    def refused(self, function, *handed):
        before = repr(handed)
        told = []
        for time in range(2):
            with self.assertRaises(NoMill) as caught:
                function(*handed)
            told.append((caught.exception.word, caught.exception.number))
            self.assertEqual(repr(handed), before)
        self.assertEqual(repr(told[0]), repr(told[1]))
        return told[0]
