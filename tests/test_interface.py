"""[35]: the interface's names and examples, and the first example of all, as the document tells them."""

import ast
import doctest
import importlib
import inspect
import os
import unittest

from tests.places import PACKAGE

NAMES = {
    "errors": ("BatchError", "BadThing", "BadText", "BadJob", "BadPaper"),
    "expressions": ("worth", "expression_text"),
    "jobreader": ("read_job",),
    "jobchecker": ("columns_of", "are_rows"),
    "jobwriting": ("job_text",),
    "folds": ("no_state", "one_state", "put_together", "state_told"),
    "meaning": ("meaning",),
    "rules": ("applied",),
    "judge": ("judged", "improved"),
    "keysums": ("key_sum",),
    "plans": ("plan_of", "tasks_of", "files_of", "inputs_of", "answer_files", "needed_tasks"),
    "blocks": ("cut_rows", "blocks_of", "homes_of", "block_files", "block_of"),
    "tasks": ("task_rows", "all_files", "answer_of", "plain_answer"),
    "sorting": ("sorted_in_runs", "rounds_for"),
    "smalltasks": ("task_rows_small",),
    "skew": ("hot_keys", "fold_in_two", "most_in_piece"),
    "machines": ("Machine",),
    "scheduling": ("places_told", "wanted_tasks", "ready_tasks", "lost_blocks", "orders_for"),
    "middle": ("Middle",),
    "worlds": ("World", "played"),
    "fair": (
        "fair_round", "finish", "most_rounds", "most_worked", "missing_blocks", "wrong_files", "lasting_blocks"),
    "again": ("answer_again", "changed_blocks", "hanging_tasks"),
    "origins": ("origins_of", "are_origins"),
    "audits": ("wrong_task", "audited", "files_in"),
    "costs": (
        "cuts_for", "longest_block", "rows_read", "rows_cut", "longest_way", "rounds_in_peace", "works_in_peace"),
    "tabletexts": ("table_text", "table_by"),
    "histories": ("history_text", "history_by"),
    "reports": ("states_of", "progress", "plan_text", "answer_text", "world_text"),
    "whole": ("world_by", "told_behind", "run_all"),
}
METHODS = {
    "Machine": {
        "fall": [], "burn": [], "rise": [], "whole": ["file"], "whole_files": [], "has_task": ["plan", "task"],
        "ready": [], "letter": ["plan", "told"], "step": ["plan", "torn"]},
    "Middle": {"begin": ["is_torn"], "fall": [], "letter": ["told"], "think": []},
    "World": {"event": ["kind", "at", "more"], "worked": []},
}

PARAMETERS = {
    "BadThing": ["thing"], "BadText": ["line", "column"], "BadJob": ["name", "why"], "BadPaper": ["at"],
    "worth": ["told", "places", "row"], "expression_text": ["told"], "read_job": ["text"], "columns_of": ["job"],
    "are_rows": ["thing", "columns"], "job_text": ["job"], "no_state": ["kind"], "one_state": ["kind", "value"],
    "put_together": ["kind", "one", "other"], "state_told": ["kind", "state"], "meaning": ["job", "data"],
    "applied": ["job", "rule", "name"], "judged": ["job", "paper"], "improved": ["job"],
    "key_sum": ["key"], "plan_of": ["job", "cuts", "pieces", "is_ahead", "hows"], "tasks_of": ["plan"],
    "files_of": ["plan", "task"], "inputs_of": ["plan", "task"], "answer_files": ["plan"], "needed_tasks": ["plan"],
    "cut_rows": ["rows", "many"], "blocks_of": ["data", "cuts"], "homes_of": ["number", "copies", "machines"],
    "block_files": ["plan"], "block_of": ["plan", "file"], "task_rows": ["plan", "task", "lists"],
    "all_files": ["plan", "blocks"], "answer_of": ["plan", "files"], "plain_answer": ["plan", "blocks"],
    "sorted_in_runs": ["rows", "at", "memory", "width"], "rounds_for": ["many", "memory", "width"],
    "task_rows_small": ["plan", "task", "lists", "memory", "width"], "hot_keys": ["rows", "keys", "names", "most"],
    "fold_in_two": ["rows", "details", "names", "hot", "pieces"],
    "most_in_piece": ["rows", "keys", "names", "hot", "pieces"], "Machine": ["number"], "places_told": ["told"],
    "wanted_tasks": ["plan", "places"], "ready_tasks": ["plan", "places"], "lost_blocks": ["plan", "places"],
    "orders_for": ["plan", "told", "ages", "patience"], "Middle": ["plan", "machines", "patience"],
    "World": ["plan", "blocks", "machines", "copies", "patience"], "played": ["world", "events"],
    "fair_round": ["world"], "finish": ["world"], "most_rounds": ["plan"], "most_worked": ["world"],
    "missing_blocks": ["world"], "wrong_files": ["world"], "lasting_blocks": ["world"],
    "answer_again": ["plan", "files", "old", "new"], "changed_blocks": ["plan", "old", "new"],
    "hanging_tasks": ["plan", "changed"], "origins_of": ["job", "blocks", "row"],
    "are_origins": ["job", "blocks", "row", "thing"], "wrong_task": ["plan", "blocks", "files"],
    "audited": ["plan", "blocks", "files", "answer"], "files_in": ["world"], "cuts_for": ["data", "most"],
    "longest_block": ["data", "cuts"], "rows_read": ["plan", "files"], "rows_cut": ["plan", "files"],
    "longest_way": ["plan"], "rounds_in_peace": ["plan"], "works_in_peace": ["plan"],
    "table_text": ["name", "columns", "rows"], "table_by": ["text"], "history_text": ["events"],
    "history_by": ["text"], "states_of": ["world"], "progress": ["world"], "plan_text": ["plan"],
    "answer_text": ["answer"], "world_text": ["world"], "world_by": ["job_text", "tables", "choice"],
    "told_behind": ["world"], "run_all": ["job_text", "tables", "choice", "history"],
}

EXAMPLES = r"""
>>> told = ("two", "mod", ("minus", ("column", "x")), ("number", 3))
>>> worth(told, {"x": 0}, (4,)), worth(("two", "/", ("number", 7), ("number", 0)), {}, ()), worth(("two", "*", ("number", 9223372036854775807), ("number", 2)), {}, ())
(2, 0, -2)

>>> text = "read a(x int, t text)\nb = filter a where x > 1\nc = fold b by t: count() as n, sum(x) as s\nanswer c"
>>> job = read_job(text)
>>> job[0][1], job[0][2], job[1]
(('b', 'filter', ('a',), ('two', '>', ('column', 'x'), ('number', 1))), ('c', 'fold', ('b',), (('t',), (('count', None, 'n'), ('sum', ('column', 'x'), 's')))), 'c')

>>> columns_of(job)["c"], are_rows([(1, "p")], columns_of(job)["a"]), are_rows([("p", 1)], columns_of(job)["a"])
((('t', 'text'), ('n', 'int'), ('s', 'int')), True, False)

>>> read_job(job_text(job)) == job
True

>>> put_together("mean", (5, 2), (4, 1)), state_told("mean", (9, 3)), put_together("least", no_state("least"), one_state("least", "q")), put_together("unlike", (1, 3), (2, 3))
((9, 3), 3, ('q',), (1, 2, 3))

>>> data = {"a": [(1, "p"), (5, "q"), (2, "p"), (3, "q"), (9, "p")]}
>>> meaning(job, data)
[('p', 2, 11), ('q', 2, 8)]

>>> late = read_job("read a(x int)\nb = map a to x + 1 as y\nc = filter b where y > 2\nanswer c")
>>> applied(late, "past map", "c")[0][2][1:], applied(late, "past map", "b"), applied(late, "drop", "a")
(('filter', ('a',), ('two', '>', ('two', '+', ('column', 'x'), ('number', 1)), ('number', 2))), None, None)

>>> better = judged(late, (("past map", "c"), ("drop", "b")))
>>> [step[1] for step in better[0]], meaning(better, {"a": [(1,), (5,)]}), meaning(judged(late, improved(late)), {"a": [(1,), (5,)]})
(['read', 'filter', 'map'], [(6,)], [(6,)])

>>> key_sum((1, "a")) == key_sum((1, "a")), key_sum(()) >= 0
(True, True)

>>> plan = plan_of(job, {"a": 2}, 3, True)
>>> len(answer_files(plan)) > 0, inputs_of(plan, tasks_of(plan)[0]), needed_tasks(plan) == sorted(needed_tasks(plan)), files_of(plan, tasks_of(plan)[0])[0][:2] == tasks_of(plan)[0]
(True, [], True, True)

>>> cut_rows([(1,), (2,), (3,)], 2), homes_of(4, 2, 3), [block_of(plan, file) for file in block_files(plan)]
([((1,), (2,)), ((3,),)], (1, 2), [('a', 0), ('a', 1)])

>>> blocks = blocks_of(data, {"a": 2})
>>> plain_answer(plan, blocks), answer_of(plan, all_files(plan, blocks)) == meaning(job, data)
([('p', 2, 11), ('q', 2, 8)], True)

>>> sorted_in_runs([(3,), (1,), (2,), (5,), (4,)], 0, 2, 2), rounds_for(100, 3, 4)
(([(1,), (2,), (3,), (4,), (5,)], 2, 2), 3)

>>> files = all_files(plan, blocks)
>>> task = tasks_of(plan)[-1]
>>> lists = [files[file] for file in inputs_of(plan, task)]
>>> task_rows_small(plan, task, lists, 1, 2) == task_rows(plan, task, lists)
True

>>> rows = [("p", 1)] * 6 + [("q", 4)]
>>> details = (("t",), (("sum", ("column", "x"), "s"),))
>>> hot_keys(rows, ("t",), ("t", "x"), 3), fold_in_two(rows, details, ("t", "x"), [("p",)], 3), most_in_piece(rows, ("t",), ("t", "x"), [("p",), ("q",)], 3)
([('p',)], [('p', 6), ('q', 4)], 3)

>>> machine = Machine(2)
>>> machine.letter(plan, ("ask", 2, (0, 0, 0), 1)), machine.letter(plan, ("tell", 2, (1, 4))), machine.is_up, machine.worked
([('lack', 1, (0, 0, 0))], [('told', -1, (1, 4), 2, (), ())], True, 0)

>>> places_told({1: (((0, 0, 0),), ()), 0: (((0, 0, 0), (0, 1, 0)), ())}), len(lost_blocks(plan, {})), orders_for(plan, {}, {}, 1)
({(0, 0, 0): (0, 1), (0, 1, 0): (0,)}, 2, [])

>>> middle = Middle(plan, 2, 1)
>>> middle.begin(True), middle.begin(False), middle.turn, middle.think(), middle.journal
(None, None, (2, 0), [('tell', 0, (2, 1)), ('tell', 1, (2, 1))], [False, True])

>>> world = played(World(plan, blocks, 3, 2, 1), [("begin", 0, 0), ("think", 0, 0), ("come", 0, 0), ("burn", 0, 0), ("stop", 0, 0), ("begin torn", 0, 0)])
>>> world.worked(), len(world.letters), world.answers, world.middle.journal, world.machines[0].disk
(0, 3, [], [True, False], {})

>>> finish(world) <= most_rounds(plan), world.middle.answer, missing_blocks(world), wrong_files(world), len(lasting_blocks(world))
(True, [('p', 2, 11), ('q', 2, 8)], (), [], 2)
>>> gone = played(World(plan, blocks, 2, 1, 1), [("burn", 0, 0)])
>>> finish(gone) > 0, gone.middle.answer, len(gone.middle.lost), gone.middle.lost == missing_blocks(gone)
(True, None, 1, True)

>>> new = {"a": [blocks["a"][0], ((7, "z"),)]}
>>> answer_again(plan, files, blocks, new)[0], len(changed_blocks(plan, blocks, new)), answer_again(plan, files, blocks, blocks)
([('p', 1, 2), ('q', 1, 5), ('z', 1, 7)], 1, ([('p', 2, 11), ('q', 2, 8)], 0))

>>> origins_of(job, blocks, ("p", 2, 11)), are_origins(job, blocks, ("p", 2, 11), (("a", 0),))
((('a', 0), ('a', 1)), False)

>>> fresh = World(plan, blocks, 3, 2, 1)
>>> rounds = finish(fresh)
>>> audited(plan, blocks, files, meaning(job, data)), wrong_task(plan, blocks, {}) == needed_tasks(plan)[0], rounds > 0 and audited(plan, blocks, files_in(fresh), fresh.middle.answer)
(True, True, True)

>>> cuts_for(data, 2), longest_block(data, {"a": 3}), rounds_in_peace(plan) == 2 * longest_way(plan) + 3
({'a': 3}, 2, True)

>>> table_by("a(x int, t text)  # two\n1, \"p\"\n-2, \"q, r\""), table_by(table_text("a", (("x", "int"),), [(4,)]))
(('a', (('x', 'int'), ('t', 'text')), [(1, 'p'), (-2, 'q, r')]), ('a', (('x', 'int'),), [(4,)]))

>>> history_by("begin torn\ncome 3\ntear 2 1"), history_text([("think", 0, 0), ("fall", 5, 0)])
([('begin torn', 0, 0), ('come', 3, 0), ('tear', 2, 1)], 'think\nfall 5')

>>> progress(World(plan, blocks, 3, 2, 1))[1:], rounds > 0, sorted(set(states_of(fresh).values()))
((2, 0), True, ['done'])

>>> table = table_text("a", (("x", "int"), ("t", "text")), data["a"])
>>> run_all(text, [table], ({"a": 2}, 2, True, True, 3, 2, 1, {}), "begin\nthink\ncome 0\nfall 1\nstop")
(('answer', (('p', 2, 11), ('q', 2, 8))), ((('p', 2, 11), ('q', 2, 8)),))

>>> from countedonce.tabletexts import table_text
>>> from countedonce.whole import run_all
>>> job = "read eaten(who text, cakes int)\nsums = fold eaten by who: sum(cakes) as many\nanswer sums"
>>> table = table_text("eaten", (("who", "text"), ("cakes", "int")), [("ann", 2), ("bo", 1), ("ann", 3), ("bo", 0)])
>>> run_all(job, [table], ({"eaten": 2}, 2, True, True, 3, 2, 1, {}), "begin\nthink\ncome 0\nfall 1\nstop")[0]
('answer', (('ann', 5), ('bo', 1)))
"""


def module(name):
    return importlib.import_module("countedonce." + name)


class Interface(unittest.TestCase):
    def test_examples_as_they_stand(self):
        known = {name: getattr(module(file), name) for file, names in NAMES.items() for name in names}
        test = doctest.DocTestParser().get_doctest(EXAMPLES, known, "DOC.md", None, 0)
        result = doctest.DocTestRunner(verbose=False).run(test)
        self.assertEqual((result.failed, result.attempted), (0, 55))

    def test_each_name_is_defined_in_its_file(self):
        for file, names in NAMES.items():
            with open(os.path.join(PACKAGE, file + ".py"), encoding="utf-8") as handle:
                body = ast.parse(handle.read()).body
            defined = [node.name for node in body if isinstance(node, (ast.FunctionDef, ast.ClassDef))]
            for name in names:
                self.assertIn(name, defined)

    def test_arguments(self):
        for file, names in NAMES.items():
            for name in names:
                if name in PARAMETERS:
                    got = list(inspect.signature(getattr(module(file), name)).parameters)
                    self.assertEqual(got, PARAMETERS[name])

    def test_methods_are_defined_in_their_class(self):
        for file, names in NAMES.items():
            for name in names:
                told = getattr(module(file), name)
                for method, parameters in METHODS.get(name, {}).items():
                    self.assertIn(method, vars(told))
                    self.assertEqual(list(inspect.signature(vars(told)[method]).parameters), ["self"] + parameters)

    def test_hows_may_lack(self):
        self.assertIsNone(inspect.signature(module("plans").plan_of).parameters["hows"].default)

    def test_errors(self):
        errors = module("errors")
        self.assertTrue(issubclass(errors.BatchError, Exception))
        for name in NAMES["errors"][1:]:
            self.assertTrue(issubclass(getattr(errors, name), errors.BatchError))
        self.assertEqual(errors.BadThing(("a", 1)).thing, ("a", 1))
        text = errors.BadText(3, 4)
        self.assertEqual((text.line, text.column), (3, 4))
        job = errors.BadJob("b", "why")
        self.assertEqual((job.name, job.why), ("b", "why"))
        self.assertEqual(errors.BadPaper(0).at, 0)
        self.assertFalse(issubclass(errors.BadText, errors.BadThing))


if __name__ == "__main__":
    unittest.main()
