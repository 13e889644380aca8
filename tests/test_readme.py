"""README.md: its examples tell what stands behind them."""

import ast
import os
import re
import unittest

from tests.places import ROOT


def blocks():
    with open(os.path.join(ROOT, "README.md"), encoding="utf-8") as handle:
        return re.findall(r"```python\n(.*?)```", handle.read(), re.S)


def parts(block):
    """Pairs of code and of what its last line tells, None where nothing is told."""
    told = []
    code = ""
    for line in block.split("\n"):
        if line.startswith("# "):
            told.append((code, ast.literal_eval(line[2:])))
            code = ""
        else:
            code += line + "\n"
    return told + [(code, None)]


class Readme(unittest.TestCase):
    def test_examples(self):
        known = {}
        many = 0
        for code, want in [part for block in blocks() for part in parts(block)]:
            tree = ast.parse(code)
            if want is None:
                exec(code, known)
            else:
                last = tree.body.pop()
                exec(compile(tree, "README.md", "exec"), known)
                self.assertEqual(eval(compile(ast.Expression(last.value), "README.md", "eval"), known), want)
                many += 1
        self.assertGreater(many, 4)


if __name__ == "__main__":
    unittest.main()
