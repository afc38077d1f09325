"""What README.md shows is what the program tells."""

import ast
import contextlib
import io
import pathlib
import re
import unittest

README = pathlib.Path(__file__).resolve().parent.parent / "README.md"
BLOCK = re.compile(r"^```python\n(.*?)^```$", re.MULTILINE | re.DOTALL)
# A value by itself, and behind it what is told, perhaps with some words on it behind a colon.
SHOWN = re.compile(r"^(\S.*?) +# (.*?)(?:: .*)?$", re.MULTILINE)
PRINTED = re.compile(r"^ +print\(.*\) +# (.*)$", re.MULTILINE)


def is_value(text):
    return isinstance(ast.parse(text).body[0], ast.Expr)


class TestReadme(unittest.TestCase):
    def test_the_examples_tell_what_is_shown(self):
        names = {}
        told = 0
        for block in BLOCK.findall(README.read_text()):
            printed = io.StringIO()
            with contextlib.redirect_stdout(printed):
                exec(block, names)
            self.assertEqual(printed.getvalue().splitlines(), PRINTED.findall(block))
            for text, expected in SHOWN.findall(block):
                if is_value(text):
                    with self.subTest(text=text):
                        self.assertEqual(repr(eval(text, names)), repr(ast.literal_eval(expected)))
                        told += 1
        self.assertGreater(told, 20)


if __name__ == "__main__":
    unittest.main()
