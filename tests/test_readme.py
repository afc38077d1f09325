"""What README.md shows is what the program tells."""

import ast
import contextlib
import io
import pathlib
import re
import unittest

README = pathlib.Path(__file__).resolve().parent.parent / "README.md"
BLOCK = re.compile(r"^```python\n(.*?)^```$", re.MULTILINE | re.DOTALL)
# Behind a value by itself stands what is told, perhaps with some words on it behind a colon and a blank.
SHOWN = re.compile(r" +# (.*?)(?:: .*)?$")
PRINTED = re.compile(r"^ +print\(.*\) +# (.*)$", re.MULTILINE)


class TestReadme(unittest.TestCase):
    def test_the_examples_tell_what_is_shown(self):
        names = {}
        told = 0
        for block in BLOCK.findall(README.read_text()):
            printed = io.StringIO()
            # One behind the other, since a desk that is told a line stands elsewhere for the next one.
            for part in ast.parse(block).body:
                with contextlib.redirect_stdout(printed):
                    if isinstance(part, ast.Expr):
                        told += self.is_shown(block, part, names)
                    else:
                        exec(ast.unparse(part), names)
            self.assertEqual(printed.getvalue().splitlines(), PRINTED.findall(block))
        self.assertGreater(told, 50)

    def is_shown(self, block, part, names):
        text = block.splitlines()[part.end_lineno - 1][part.end_col_offset:]
        with self.subTest(line=ast.unparse(part)):
            self.assertRegex(text, SHOWN)
            expected = ast.literal_eval(SHOWN.search(text)[1])
            self.assertEqual(repr(eval(ast.unparse(part), names)), repr(expected))
        return 1


if __name__ == "__main__":
    unittest.main()
