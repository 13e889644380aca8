"""Those rules of the language that are easily seen in the text of the package.

What cannot be seen here is for the reader of LANGUAGE.md.
"""

import ast
import builtins
import os
import re
import unittest

from tests.places import PACKAGE

NODES = (
    "Module Expr Constant ImportFrom alias FunctionDef arguments arg ClassDef Assign AugAssign Return If While For Raise "
    "Name Load Store Attribute Call Tuple List Dict Compare BoolOp BinOp UnaryOp And Or Not USub Add Sub Mult Mod "
    "FloorDiv Pow Eq NotEq Lt LtE Gt GtE Is IsNot In NotIn Subscript Slice ListComp DictComp comprehension IfExp Lambda "
    "keyword Break Continue Pass JoinedStr FormattedValue").split()
BUILTINS = (
    "len range enumerate zip min max sum abs sorted reversed int str bool list tuple dict set isinstance ord repr any "
    "all divmod Exception").split()
METHODS = (
    "append count endswith extend find get index insert items join keys pop remove replace setdefault split startswith "
    "strip update values").split()
LIBRARY = {"heapq": ("heappush", "heappop")}
# What attributes may not be called, beside the names of methods of Python's own values.
BARRED_ATTRIBUTES = (
    "items keys values pop update append clear extend insert remove reverse setdefault sort args encode decode hex "
    "fromhex format as_integer_ratio bit_count conjugate from_bytes is_integer to_bytes").split()
# Doctests set one called "_".
OF_PYTHON = [name for name in dir(builtins) if name != "_"]
BARRED = (
    "register mro elements open input law version_info with_traceback add_note breakpoint builtins compile copyright "
    "credits delattr dir eval exec exit gc globals help id importlib license locals os quit super vars sys").split()
WORDS = (
    "type typing typing_extensions enum Enum IntEnum StrEnum Flag IntFlag Generic Protocol ABC ABCMeta namedtuple "
    "NamedTuple TypedDict TYPE_CHECKING abstractmethod _wall _WallAttr").split()


def files():
    return sorted(name for name in os.listdir(PACKAGE) if name != "__pycache__")


def text_of(name):
    with open(os.path.join(PACKAGE, name), encoding="utf-8", newline="") as handle:
        return handle.read()


def trees():
    return [(name, ast.parse(text_of(name))) for name in files()]


def nodes(tree, kinds):
    return [node for node in ast.walk(tree) if isinstance(node, kinds)]


def bound(tree):
    """All names that a tree binds, but by imports."""
    names = [node.id for node in nodes(tree, ast.Name) if isinstance(node.ctx, ast.Store)]
    names += [node.name for node in nodes(tree, (ast.FunctionDef, ast.ClassDef))]
    return names + [node.arg for node in nodes(tree, ast.arg)]


def imported(tree):
    return [(node.module, alias.name) for node in nodes(tree, ast.ImportFrom) for alias in node.names]


def top_names(tree):
    names = []
    for node in tree.body:
        if isinstance(node, (ast.FunctionDef, ast.ClassDef)):
            names.append(node.name)
        elif isinstance(node, ast.Assign):
            names.append(node.targets[0].id)
    return names


class Language(unittest.TestCase):
    def test_files(self):
        self.assertIn("__init__.py", files())
        for name in files():
            self.assertRegex(name, r"^[a-z0-9_]+\.py$")
            self.assertNotIn(name[:-3], OF_PYTHON)

    def test_signs_and_sizes(self):
        for name in files():
            text = text_of(name)
            self.assertTrue(all(sign == "\n" or " " <= sign <= "~" for sign in text), name)
            rows = text.split("\n")
            self.assertLess(len(rows), 400, name)
            self.assertLessEqual(max(len(row) for row in rows), 120, name)
            for node in nodes(ast.parse(text), ast.FunctionDef):
                self.assertLessEqual(node.end_lineno - node.lineno + 1, 40, (name, node.name))

    def test_kinds_of_nodes(self):
        for name, tree in trees():
            for node in ast.walk(tree):
                self.assertIn(type(node).__name__, NODES, (name, getattr(node, "lineno", 0)))

    def test_imports(self):
        known = {"countedonce." + name[:-3]: tree for name, tree in trees()}
        for name, tree in trees():
            for module, word in imported(tree):
                if module in LIBRARY:
                    self.assertIn(word, LIBRARY[module], name)
                    self.assertNotIn(word, bound(tree), name)
                else:
                    self.assertIn(word, top_names(known[module]), (name, module))
            self.assertFalse([alias for node in nodes(tree, ast.ImportFrom) for alias in node.names if alias.asname])

    def test_no_two_files_import_from_each_other(self):
        behind = {"countedonce." + name[:-3]: {module for module, _ in imported(tree) if module not in LIBRARY}
                  for name, tree in trees()}
        while behind:
            free = [name for name, needs in behind.items() if not needs & set(behind)]
            self.assertTrue(free, sorted(behind))
            behind = {name: needs for name, needs in behind.items() if name not in free}

    def test_module_level(self):
        for name, tree in trees():
            rows = [node for node in tree.body if not isinstance(node, (ast.FunctionDef, ast.ClassDef, ast.ImportFrom))]
            for node in rows[1:]:
                self.assertIsInstance(node, ast.Assign, name)
                self.assertIsInstance(node.targets[0], ast.Name)
            self.assertIsInstance(rows[0].value, ast.Constant, name)
            names = top_names(tree) + [word for _, word in imported(tree)]
            self.assertEqual(len(set(names)), len(names), name)

    def test_names(self):
        for name, tree in trees():
            taken = [word for _, word in imported(tree)]
            taken += [node.name for node in nodes(tree, ast.ClassDef)]
            for function in nodes(tree, ast.FunctionDef):
                for word in bound(function)[1:]:
                    self.assertNotIn(word, taken, name)
            for word in bound(tree):
                self.assertNotIn(word, BARRED, name)
                self.assertTrue(word == "__init__" or not word.startswith("__"), (name, word))
                self.assertNotIn(word, OF_PYTHON, name)
            for node in nodes(tree, ast.Attribute):
                self.assertNotIn(node.attr, BARRED, name)

    def test_attributes(self):
        for name, tree in trees():
            for made in nodes(tree, ast.ClassDef):
                methods = [node.name for node in made.body if isinstance(node, ast.FunctionDef)]
                self.assertEqual(len(set(methods)), len(methods), name)
                for node in nodes(made, ast.Attribute):
                    if isinstance(node.ctx, ast.Store):
                        self.assertNotIn(node.attr, methods + BARRED_ATTRIBUTES, name)
            for method in [node for made in nodes(tree, ast.ClassDef) for node in made.body
                           if isinstance(node, ast.FunctionDef) and node.name != "__init__"]:
                for value in ("", 0, [], {}, set(), b"", ()):
                    self.assertFalse(hasattr(value, method.name), (name, method.name))

    def test_words_and_strings(self):
        for name, tree in trees():
            docs = [ast.get_docstring(node, clean=False)
                    for node in nodes(tree, (ast.Module, ast.FunctionDef, ast.ClassDef))]
            for node in nodes(tree, ast.Constant):
                if isinstance(node.value, str) and node.value not in docs:
                    self.assertNotIn("%", node.value, name)
                    self.assertFalse(set(re.findall(r"\w+", node.value)) & set(WORDS), name)
            for node in nodes(tree, ast.Name):
                self.assertNotIn(node.id, WORDS, name)

    def test_builtins_and_methods(self):
        own = [node.name for _, tree in trees() for node in nodes(tree, ast.FunctionDef)]
        for name, tree in trees():
            for node in nodes(tree, ast.Name):
                if node.id in OF_PYTHON:
                    self.assertIn(node.id, BUILTINS, (name, node.lineno))
            for node in nodes(tree, ast.Call):
                if isinstance(node.func, ast.Attribute):
                    self.assertIn(node.func.attr, METHODS + own, (name, node.lineno))

    def test_sets_and_is(self):
        for name, tree in trees():
            within = [inner for node in nodes(tree, ast.Call) if isinstance(node.func, ast.Name)
                      and node.func.id in ("sorted", "len") for inner in node.args]
            for node in nodes(tree, ast.Call):
                if isinstance(node.func, ast.Name) and node.func.id == "set":
                    self.assertIn(node, within, (name, node.lineno))
            for node in nodes(tree, ast.Compare):
                if isinstance(node.ops[0], (ast.Is, ast.IsNot)):
                    self.assertIsInstance(node.comparators[0], ast.Constant, (name, node.lineno))


if __name__ == "__main__":
    unittest.main()
