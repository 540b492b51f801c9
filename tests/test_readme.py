"""The rows of Python in README.md do what is said beside them."""

import ast
import contextlib
import io
import pathlib
import re
import unittest

TEXT = (pathlib.Path(__file__).parent.parent / "README.md").read_text("utf-8")
ROWS = "\n".join(re.findall(r"```python\n(.*?)```", TEXT, re.S))


def said(comment):
    """The value with which this comment begins, in a list; an empty one if it begins with none."""
    for end in range(len(comment), 0, -1):
        if re.match(r"[:;,]|\Z", comment[end:]):
            try:
                return [ast.literal_eval(comment[:end])]
            except (ValueError, SyntaxError):
                pass
    return []


class Readme(unittest.TestCase):
    def test_rows(self):
        names, lines, compared = {}, ROWS.split("\n"), 0
        for node in ast.parse(ROWS).body:
            code = ast.get_source_segment(ROWS, node)
            if not isinstance(node, ast.Expr):
                exec(code, names)
                continue
            with contextlib.redirect_stdout(io.StringIO()):
                told = eval(code, names)
            behind = lines[node.end_lineno - 1][node.end_col_offset:] or lines[node.end_lineno]
            match = re.match(r"\s*# (.*)", behind)
            for value in said(match.group(1)) if match else []:
                self.assertEqual(told, value, code)
                compared += 1
        self.assertGreater(compared, 45)


if __name__ == "__main__":
    unittest.main()
