"""[35]: the interface's names and examples of the modules that stand, as the document tells them."""

import ast
import doctest
import importlib
import inspect
import os
import unittest

from tests.places import PACKAGE

NAMES = {
    "errors": ("BatchError", "BadThing", "BadText", "BadJob", "BadPaper"),
    "expressions": ("worth", "expression_text"),
    "jobreader": ("read_job",),
    "jobchecker": ("columns_of", "are_rows"),
    "jobwriting": ("job_text",),
    "folds": ("no_state", "one_state", "put_together", "state_told"),
    "meaning": ("meaning",),
    "rules": ("applied",),
    "judge": ("judged", "improved"),
}

PARAMETERS = {
    "BadThing": ["thing"], "BadText": ["line", "column"], "BadJob": ["name", "why"], "BadPaper": ["at"],
    "worth": ["told", "places", "row"], "expression_text": ["told"], "read_job": ["text"], "columns_of": ["job"],
    "are_rows": ["thing", "columns"], "job_text": ["job"], "no_state": ["kind"], "one_state": ["kind", "value"],
    "put_together": ["kind", "one", "other"], "state_told": ["kind", "state"], "meaning": ["job", "data"],
    "applied": ["job", "rule", "name"], "judged": ["job", "paper"], "improved": ["job"],
}

EXAMPLES = r"""
>>> told = ("two", "mod", ("minus", ("column", "x")), ("number", 3))
>>> worth(told, {"x": 0}, (4,)), worth(("two", "/", ("number", 7), ("number", 0)), {}, ()), worth(("two", "*", ("number", 9223372036854775807), ("number", 2)), {}, ())
(2, 0, -2)

>>> text = "read a(x int, t text)\nb = filter a where x > 1\nc = fold b by t: count() as n, sum(x) as s\nanswer c"
>>> job = read_job(text)
>>> job[0][1], job[0][2], job[1]
(('b', 'filter', ('a',), ('two', '>', ('column', 'x'), ('number', 1))), ('c', 'fold', ('b',), (('t',), (('count', None, 'n'), ('sum', ('column', 'x'), 's')))), 'c')

>>> columns_of(job)["c"], are_rows([(1, "p")], columns_of(job)["a"]), are_rows([("p", 1)], columns_of(job)["a"])
((('t', 'text'), ('n', 'int'), ('s', 'int')), True, False)

>>> read_job(job_text(job)) == job
True

>>> put_together("mean", (5, 2), (4, 1)), state_told("mean", (9, 3)), put_together("least", no_state("least"), one_state("least", "q")), put_together("unlike", (1, 3), (2, 3))
((9, 3), 3, ('q',), (1, 2, 3))

>>> data = {"a": [(1, "p"), (5, "q"), (2, "p"), (3, "q"), (9, "p")]}
>>> meaning(job, data)
[('p', 2, 11), ('q', 2, 8)]

>>> late = read_job("read a(x int)\nb = map a to x + 1 as y\nc = filter b where y > 2\nanswer c")
>>> applied(late, "past map", "c")[0][2][1:], applied(late, "past map", "b"), applied(late, "drop", "a")
(('filter', ('a',), ('two', '>', ('two', '+', ('column', 'x'), ('number', 1)), ('number', 2))), None, None)

>>> better = judged(late, (("past map", "c"), ("drop", "b")))
>>> [step[1] for step in better[0]], meaning(better, {"a": [(1,), (5,)]}), meaning(judged(late, improved(late)), {"a": [(1,), (5,)]})
(['read', 'filter', 'map'], [(6,)], [(6,)])
"""


def module(name):
    return importlib.import_module("countedonce." + name)


class Interface(unittest.TestCase):
    def test_examples_as_they_stand(self):
        known = {name: getattr(module(file), name) for file, names in NAMES.items() for name in names}
        test = doctest.DocTestParser().get_doctest(EXAMPLES, known, "DOC.md", None, 0)
        result = doctest.DocTestRunner(verbose=False).run(test)
        self.assertEqual((result.failed, result.attempted), (0, 14))

    def test_each_name_is_defined_in_its_file(self):
        for file, names in NAMES.items():
            with open(os.path.join(PACKAGE, file + ".py"), encoding="utf-8") as handle:
                body = ast.parse(handle.read()).body
            defined = [node.name for node in body if isinstance(node, (ast.FunctionDef, ast.ClassDef))]
            for name in names:
                self.assertIn(name, defined)

    def test_arguments(self):
        for file, names in NAMES.items():
            for name in names:
                if name in PARAMETERS:
                    got = list(inspect.signature(getattr(module(file), name)).parameters)
                    self.assertEqual(got, PARAMETERS[name])

    def test_errors(self):
        errors = module("errors")
        self.assertTrue(issubclass(errors.BatchError, Exception))
        for name in NAMES["errors"][1:]:
            self.assertTrue(issubclass(getattr(errors, name), errors.BatchError))
        self.assertEqual(errors.BadThing(("a", 1)).thing, ("a", 1))
        text = errors.BadText(3, 4)
        self.assertEqual((text.line, text.column), (3, 4))
        job = errors.BadJob("b", "why")
        self.assertEqual((job.name, job.why), ("b", "why"))
        self.assertEqual(errors.BadPaper(0).at, 0)
        self.assertFalse(issubclass(errors.BadText, errors.BadThing))


if __name__ == "__main__":
    unittest.main()
