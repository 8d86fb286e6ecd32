"""What README.md shows runs, and tells what it says there."""

import ast
import re
import unittest
from pathlib import Path

README = Path(__file__).resolve().parent.parent / "README.md"


def told_in(comment):
    """The plain value with which a comment begins, in a list, [] where it begins with none."""
    for end in range(len(comment), 0, -1):
        # A comma behind the value belongs to the words.
        value = comment[:end].strip()
        try:
            if not value.endswith(","):
                return [ast.literal_eval(value)]
        except (SyntaxError, ValueError):
            continue
    return []


class Readme(unittest.TestCase):
    def test_each_row_runs_and_tells_what_it_says(self):
        text = README.read_text(encoding="utf-8")
        names = {}
        checked = 0
        for block in re.findall(r"```python\n(.*?)```", text, re.DOTALL):
            for row in ast.parse(block).body:
                code = ast.get_source_segment(block, row)
                if not isinstance(row, ast.Expr):
                    exec(code, names)
                    continue
                comment = block.splitlines()[row.end_lineno - 1].partition("#")[2].strip()
                told = eval(code, names)
                for expected in told_in(comment):
                    self.assertEqual(repr(told), repr(expected), code)
                    checked += 1
        self.assertGreater(checked, 10)
