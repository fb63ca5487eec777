"""Points 1 to 4 over the whole program: what is passed in stays as it is, what is returned belongs to the caller."""

import importlib
import inspect
import random
import types
import unittest

from endchecks.alike import end_alike, part
from endchecks.books import Book
from endchecks.desk import Desk
from endchecks.paths import bar, can_go, is_bar, paths, tables_on
from endchecks.rowkinds import how_many, row_kinds
from endchecks.runs import run
from endchecks.schemas import Schema
from endchecks.scripts import Script
from endchecks.spots import is_legal
from endchecks.stores import Store
from endchecks.supports import supports
from endchecks.tables import Tables
from endchecks.ways import CourseWalk, course
from tests.drawn import draw_lively
from tests.every import all_legal
from tests.samples import FIELDS, ROW, RULES, tree
from tests.test_interface import CLASSES, FUNCTIONS, told

END = ("change", "task", [("none", "boss")], {"state": "done", "code": None})
CUT = ("change", "task", [("not", ("none", "boss"))], {"boss": None})
NEW = ("put", "top", "task", {"state": "open", "code": ("word", "x"), "boss": ("new", "top")})
BODY = [("try", [END, ("switch", ["whole"], "now")], ["whole"], [CUT]), ("trial", [CUT]), NEW]
PATH = ((((0, 0, 0), "whole"),), ((2,), "code"))
KIND = ("task", ("open",), (("other",),), (True,))
LOOKS = []


def plan():
    return Script(tree(), list(BODY))


def plain():
    return Script(tree(), [END, CUT, NEW])


def few():
    tables = Tables(tree())
    tables["task", "b"] = {"state": "open", "boss": "a", "code": None}
    tables["task", "a"] = {"state": "open", "boss": None, "code": "x"}
    return tables


def several():
    return [(plan(), course(plan(), {}, PATH))]


def failed():
    """The check of PATH that is not passed."""
    return [event for event in several()[0][1][1] if not event[4]][0]


def store():
    it = Store(tree(), few(), {"whole": "late"})
    it.do(END)
    return it


def book():
    it = Book(plan(), {"whole": "late"})
    for deed in [("remove", (0, 0, 1)), ("insert", (1,), CUT), ("mode", "code", "each")]:
        it.do(deed)
    it.back()
    return it


def desk():
    it = Desk(plan(), {"whole": "late"})
    for line in ["row task b [boss a; code -; state open]", "row task a [boss -; code x; state open]", "remove 1", "mode code late", "back"]:
        it.execute(line)
    return it


# By the names of parameters, what is passed for them; where a function wants something else, it stands in OTHERS.
PASSED = {
    "thing": lambda: {"b": [("mark", ["x"])], "a": [[{}]]}, "one": plan, "other": plain, "script": plan, "schema": tree, "tables": few,
    "modes": lambda: {"whole": "late", "code": "each"}, "its": lambda: {"some": "late"}, "path": lambda: PATH, "failure": lambda: PATH[1], "several": several,
    "kinds": lambda: [("task", ("open",), (("other",),), (False,)), KIND], "kept": lambda: supports(several())[0], "kind": lambda: KIND, "looks": lambda: list(LOOKS),
    "course": lambda: several()[0][1], "steps": lambda: several()[0][1][0], "check": failed, "handle": lambda: "top", "field": lambda: "boss",
    "its_field": lambda: "code", "word": lambda: "x", "name": lambda: "whole", "names": lambda: ["whole", "some"], "ident": lambda: "a", "ids": lambda: ["b"],
    "table": lambda: "task", "statement": lambda: END, "tests": lambda: [("not", ("none", "boss")), ("is", "state", ["open"])], "fields": lambda: dict(FIELDS),
    "row": lambda: dict(ROW), "address": lambda: (0,), "way": lambda: "within", "book": book, "deed": lambda: ("insert", (0,), BODY[0]), "text": lambda: "",
    "spot": lambda: ("b", "a"), "events": lambda: [(1, (0,), "whole", "behind", False)],
}
OTHERS = {
    "names.less": {"one": lambda: "each", "other": lambda: "late"},
    "fits.is_linked_well": {"other": lambda: KIND}, "fits.is_linked_badly": {"other": lambda: KIND},
    "fits.is_shared_well": {"field": lambda: "code", "other": lambda: KIND}, "fits.is_shared_badly": {"field": lambda: "code", "other": lambda: KIND},
    "fits.is_worded_well": {"field": lambda: "code"}, "fits.is_worded_badly": {"field": lambda: "code"}, "fits.meets_some": {"check": lambda: (0, (), "some", "behind", True)},
    "fits.new_meets": {"check": lambda: (0, (), "some", "behind", True)}, "ways.open_course": {"script": plain}, "runs.unchecked": {"script": plain},
    "needed.breaks": {"script": plain}, "needed.tables_in": {"script": plain}, "needed.needed_modes": {"script": plain}, "orders.orders": {"script": plain},
    "orders.calm": {"script": plain}, "readers.read_statement": {"text": lambda: "try {change task [none boss] [boss -; state done]} [some whole] {trial {}}"},
    "readers.read_tests": {"text": lambda: "[is state open done; at boss []]"}, "readers.read_script": {"text": lambda: "take task []\ntrial {}\n"},
    "readers.read_address": {"text": lambda: "0.1.2"}, "readers.read_schema": {"text": lambda: "table t\ntag b\nmark m u v\nrule a some t [is m u]\n"},
    "readers.read_tables": {"text": lambda: "task a [boss b; code x; state open]\n"}, "readers.read_path": {"text": lambda: "caught 0.0.0 whole; done"},
    "readers.read_modes": {"text": lambda: "code late; whole each"}, "readers.read_deed": {"text": lambda: "insert 0 try {trial {}} [some] {}"},
    "readers.read_log": {"text": lambda: "insert 0 trial {}\nmode whole late\n"}, "notation.show_tables": {"tables": few},
}
# Methods that change nothing, with what is passed.
QUERIES = {
    tree: "tables() fields('task') marks('task') links('task') tags('task') words('task', 'state') leads_to('task', 'boss') rules() names()"
          " rule_of('whole') rank_of('code') rows_of('task') is_row('task', {}) without('code') more(('any', 'some', 'task', []))",
    few: "['task', 'a'] rows('task') ids() table_of('a') target('task', 'b', 'boss') linked('a') names() joined(Tables(tree())) copied() schema",
    plan: "body() addresses() statement_at((0,)) handles() looks() is_plain() tries() put_in((0,), CUT) without((1,)) followed_by(Script(tree(), [CUT])) schema",
    plain: "order([2, 0, 1])",
    store: "tables() modes() log() pending('whole') broken() checks(NEW) end_checks() copied() schema",
    book: "script() modes() log() past(0) past(2) copied()",
}


def shown(thing):
    """All that there is to see of a thing, dicts in the order of their keys."""
    if isinstance(thing, (list, tuple)):
        return [type(thing).__name__, *[shown(item) for item in thing]]
    if isinstance(thing, dict):
        return ["dict", *[(key, shown(thing[key])) for key in thing]]
    if isinstance(thing, Schema):
        return ["Schema", shown({table: thing.fields(table) for table in thing.tables()}), shown(thing.rules())]
    if isinstance(thing, Script):
        return ["Script", shown(thing.schema), shown(thing.body())]
    if isinstance(thing, Tables):
        return ["Tables", shown(thing.schema), [(table, shown(thing.rows(table))) for table in thing.schema.tables()]]
    if isinstance(thing, Store):
        return ["Store", shown([thing.tables(), thing.modes(), thing.log()]), [thing.pending(name) for name in thing.schema.names()]]
    if isinstance(thing, Book):
        return ["Book", shown([thing.log(), *[thing.past(many) for many in range(len(thing) + 1)]])]
    if isinstance(thing, Desk):
        return ["Desk", [thing.execute(line) for line in ["script", "log", "modes", "tables"]]]
    return repr(thing)


def spoil(thing):
    """Changes whatever can be changed of a thing."""
    if isinstance(thing, (list, tuple)):
        for item in thing:
            spoil(item)
    if isinstance(thing, dict):
        for key in thing:
            spoil(thing[key])
    if isinstance(thing, (list, dict)):
        thing.clear()
    if isinstance(thing, Tables):
        for ident in thing.ids():
            thing.drop(thing.table_of(ident), ident)
    if isinstance(thing, Store):
        thing.do(CUT)
    if isinstance(thing, Book):
        thing.do(("mode", "some", "late"))
        thing.back()
        thing.back()


def dicts_in(thing):
    if isinstance(thing, dict):
        yield thing
    if isinstance(thing, (list, tuple, dict)):
        for item in thing.values() if isinstance(thing, dict) else thing:
            yield from dicts_in(item)


def answered(call, passed):
    """What a call returns; what a generator yields as a list."""
    result = call(*passed)
    return list(result) if isinstance(result, types.GeneratorType) else result


class WholeTest(unittest.TestCase):
    def check(self, name, call, passed):
        before = shown(passed)
        result = answered(call, passed)
        first = shown(result)
        self.assertEqual(shown(passed), before, name)
        for found in dicts_in(result):
            self.assertEqual(list(found), sorted(found), name)
        spoil(result)
        self.assertEqual(shown(passed), before, name)
        self.assertEqual(shown(answered(call, passed)), first, name)

    def test_functions(self):
        """Each function of the interface: twice, with what it returned first spoilt."""
        for module, text in FUNCTIONS.items():
            for function, _ in told(text):
                call = vars(importlib.import_module("endchecks." + module))[function]
                name = f"{module}.{function}"
                every = {**PASSED, **OTHERS.get(name, {})}
                passed = [every[parameter.name]() for parameter in inspect.signature(call).parameters.values()
                          if parameter.default is inspect.Parameter.empty]
                self.check(name, call, passed)

    def test_queries(self):
        """Methods that change nothing."""
        many = 0
        for made, text in QUERIES.items():
            for query in text.replace(") ", ")\n").replace("] ", "]\n").replace("schema ", "schema\n").split("\n"):
                dot = "" if query.startswith("[") else "."
                self.check(query, lambda thing: eval(f"thing{dot}{query}", globals(), {"thing": thing}), [made()])
                many += 1
        listed = sum(len(told(methods)) for _, methods, _ in CLASSES.values())
        # All but drop of Tables; do, finish, trial, guard of Store; do, back, again of Book; execute of Desk.
        # Besides there are [ ], schema of three classes, and past twice.
        self.assertEqual(many, listed - 9 + 5)

    def test_what_objects_are_made_of(self):
        """Objects copy what they are given, except errors."""
        fields, rule = {"state": ("mark", ["open", "done"]), "boss": ("link", "task")}, ("k", "link", "task", "boss", [("none", "boss")], [])
        for made, passed in [(Schema, [{"task": fields}, [rule]]), (Script, [tree(), [("trial", [CUT]), ("change", "task", [("none", "boss")], {"boss": None})]]),
                             (Store, [tree(), few(), {"whole": "late"}]), (Book, [plan(), {"whole": "late"}]), (Desk, [plan(), {"whole": "late"}])]:
            it = made(*passed)
            before = shown(it)
            spoil(passed)
            self.assertEqual(shown(it), before, made)

    def test_lines_of_a_desk(self):
        for line in ["script", "log", "modes", "tables", "legal", "run", "paths"]:
            self.check(line, lambda it: it.execute(line), [desk()])

    def test_truths(self):
        """What returns whether something holds returns True or False, here and there."""
        names = ["is_", "are_", "has_", "do_stand", "can_go", "meets", "holds", "breaks", "never_", "always_", "end_alike", "fields_of", "less", "fits", "kind_meets", "new_"]
        seen = set()
        for module, text in FUNCTIONS.items():
            for function, _ in told(text):
                name = f"{module}.{function}"
                if any(function.startswith(word) for word in names) and name not in ["ways.new_way", "names.new_id", "needed.breaks", "fits.breaks_first"]:
                    call = vars(importlib.import_module("endchecks." + module))[function]
                    every = {**PASSED, **OTHERS.get(name, {})}
                    result = call(*[every[parameter.name]() for parameter in inspect.signature(call).parameters.values()
                                    if parameter.default is inspect.Parameter.empty])
                    self.assertIn(result, [True, False], name)
                    self.assertIs(type(result), bool, name)
                    seen.add(result)
        self.assertEqual(seen, {True, False})


class TellsTest(unittest.TestCase):
    """Point 1: for all starting tables of any size, which ways a script can go, and where two do not go one way."""

    def test_all_ways(self):
        told = {"gone": 0, "barred": 0, "run": 0, "parted": 0, "alike": 0}
        for seed in range(90):
            chance = random.Random(seed)
            schema, script, modes = draw_lively(chance)
            if how_many(schema, script.looks()) > 60:
                continue
            every, many = paths(script, modes), len(row_kinds(schema, script.looks()))
            for path in every[:10]:
                tables = tables_on(script, modes, path)
                self.assertTrue(is_legal(tables))
                self.assertEqual(run(script, tables, modes)[0], path)
                told["gone"] += 1
            for address in [*script.addresses(), ()]:
                for rule in schema.names():
                    path = CourseWalk(script, modes, [(address, rule)]).path_gone()
                    self.assertIs(can_go(script, modes, path), path in every)
                    if path not in every:
                        one = [(script, course(script, modes, path))]
                        falls, reason = bar(one)
                        self.assertTrue(is_bar(one, (falls, reason)))
                        self.assertEqual(len(falls) + len(supports(one)[0]), many)
                        told["barred"] += 1
            for tables in all_legal(schema, ["a", "b"], chance, 30) + all_legal(schema, ["a", "b", "c", "d", "e"], chance, 20):
                self.assertIn(run(script, tables, modes)[0], every)
                told["run"] += 1
            for name in schema.names():
                others = [(Script(schema, script.body()[:-1]), modes), (script, {**modes, name: chance.choice(["each", "now", "late"])})]
                for other, its in others:
                    tables = part(script, other, modes, its)
                    told["alike" if tables is None else "parted"] += 1
                    self.assertTrue(tables is None or not end_alike(script, other, tables, modes, its))
        self.assertGreater(min(told.values()), 10, told)


if __name__ == "__main__":
    unittest.main()
