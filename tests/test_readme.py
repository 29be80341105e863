"""What README.md shows is what the program answers."""

import ast
import re
import unittest
from pathlib import Path

from boughpress import errors

README = Path(__file__).resolve().parent.parent / "README.md"


def shown_value(words):
    """The value that a remark shows, perhaps with words behind a colon."""
    try:
        return ast.literal_eval(words)
    except SyntaxError:
        return ast.literal_eval(words.partition(": ")[0])


class ReadmeTest(unittest.TestCase):
    def assert_row(self, known, row):
        code, _, words = (part.strip() for part in row.partition("  # "))
        if words.startswith("refused with "):
            with self.assertRaises(getattr(errors, words.split()[-1])):
                exec(code, known)
        else:
            name, sign, expression = code.partition(" = ")
            told = eval(expression if sign else code, known)
            self.assertEqual(told, shown_value(words))
            if sign:
                known[name] = told

    def test_each_example(self):
        known = {}
        blocks = re.findall(r"```python\n(.*?)```", README.read_text(), re.DOTALL)
        self.assertGreater(len(blocks), 1)
        for block in blocks:
            if "  # " not in block:
                exec(block.replace("print", "str"), known)
                continue
            for row in block.split("\n"):
                with self.subTest(row=row):
                    if "  # " in row:
                        self.assert_row(known, row)
                    else:
                        exec(row, known)


if __name__ == "__main__":
    unittest.main()
