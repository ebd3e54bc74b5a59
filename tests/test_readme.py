import ast
import re
import unittest
from pathlib import Path

README = Path(__file__).resolve().parent.parent / "README.md"


def told_values():
    """Pairs of what each row of the example tells and what the remark behind it says, where this is a value."""
    code = "\n".join(re.findall(r"```python\n(.*?)```", README.read_text(encoding="utf-8"), re.DOTALL))
    names = {}
    pairs = []
    for statement in ast.parse(code).body:
        source = ast.get_source_segment(code, statement)
        if isinstance(statement, ast.Expr):
            remark = code.splitlines()[statement.end_lineno - 1][statement.end_col_offset:].strip().removeprefix("# ")
            value = eval(source, names)
            try:
                pairs.append((source, value, ast.literal_eval(remark)))
            except (SyntaxError, ValueError):
                continue
        else:
            exec(source, names)
    return pairs


class Readme(unittest.TestCase):
    def test_the_example_tells_what_it_says(self):
        pairs = told_values()
        self.assertGreater(len(pairs), 20)
        for source, value, said in pairs:
            self.assertEqual(value, said, source)
