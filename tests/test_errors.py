"""Points 2 and 3, and the interface's errors."""

import copy
import pickle
import unittest

from tidepond.errors import MillError, NoContent, NoLine, NoMill, NoTime

# Each class, what it is made of, in the order told, and the fields that bear it.
MADE = [
    (NoMill, ("ring", 4), ("word", "number")),
    (NoLine, (3, 0), ("line", "word")),
    (NoContent, (2,), ("pond",)),
    (NoTime, (17, 250), ("due", "most")),
]


class TestErrors(unittest.TestCase):
    def test_each_is_caught_by_its_own_name_and_its_bases(self):
        for kind, made_of, fields in MADE:
            for name in (kind, MillError, ValueError):
                with self.subTest(kind=kind, name=name):
                    with self.assertRaises(name):
                        raise kind(*made_of)

    def test_none_stands_under_another(self):
        for kind, made_of, fields in MADE:
            for other, other_made_of, other_fields in MADE:
                if other is not kind:
                    with self.subTest(kind=kind, other=other):
                        self.assertNotIsInstance(kind(*made_of), other)

    def test_none_is_an_error_of_another_sort(self):
        for kind, made_of, fields in MADE:
            with self.subTest(kind=kind):
                self.assertEqual(kind.__bases__, (MillError,))
        self.assertEqual(MillError.__bases__, (ValueError,))

    def test_fields_bear_what_it_was_made_of(self):
        for kind, made_of, fields in MADE:
            with self.subTest(kind=kind):
                error = kind(*made_of)
                self.assertEqual(tuple(getattr(error, field) for field in fields), made_of)

    def test_fields_are_made_in_the_order_told_whatever_the_values(self):
        for kind, made_of, fields in MADE:
            if len(fields) == 2:
                with self.subTest(kind=kind):
                    error = kind(10 ** 12, 0)
                    self.assertEqual(getattr(error, fields[0]), 10 ** 12)
                    self.assertEqual(getattr(error, fields[1]), 0)

    def test_it_is_made_of_just_its_fields(self):
        for kind, made_of, fields in MADE:
            for wrong in (made_of[:-1], made_of + (0,)):
                with self.subTest(kind=kind, wrong=wrong):
                    with self.assertRaises(TypeError):
                        kind(*wrong)

    def test_the_base_is_made_of_one_text(self):
        with self.assertRaises(ValueError) as caught:
            raise MillError("no water")
        self.assertIs(type(caught.exception), MillError)
        for kind, made_of, fields in MADE:
            self.assertNotIsInstance(caught.exception, kind)

    def test_two_errors_keep_their_own_fields(self):
        for kind, made_of, fields in MADE:
            with self.subTest(kind=kind):
                first = kind(*made_of)
                kind(*[99 for field in fields])
                self.assertEqual(tuple(getattr(first, field) for field in fields), made_of)

    def test_a_copy_bears_the_same_fields(self):
        for kind, made_of, fields in MADE:
            error = kind(*made_of)
            for other in (copy.copy(error), pickle.loads(pickle.dumps(error))):
                with self.subTest(kind=kind):
                    self.assertIs(type(other), kind)
                    self.assertEqual(tuple(getattr(other, field) for field in fields), made_of)


if __name__ == "__main__":
    unittest.main()
