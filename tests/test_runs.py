"""Points 13, 14, 51 and 52: runs of scripts."""

import copy
import random
import types
import unittest

from endchecks.doing import done, holds_within
from endchecks.errors import Full, Illegal
from endchecks.runs import events, final_modes, moments, run, unchecked, where
from endchecks.scripts import Script
from endchecks.spots import holds
from endchecks.stores import Store
from tests.cases import RaisesCase
from tests.drawn import draw_legal, draw_modes, draw_schema, draw_script
from tests.samples import RULES, tasks, tree
from tests.test_tables import many_tasks

END = ("change", "task", [("none", "boss")], {"state": "done", "code": None})
CUT = ("change", "task", [("not", ("none", "boss"))], {"boss": None})
TOP = ("put", "top", "task", {"state": "open", "boss": ("new", "top"), "code": ("word", "x")})
NEW = ("put", "new", "task", {"state": "open", "boss": None, "code": ("own",)})
TAKE = ("take", "task", [])
NOBODY = ("take", "task", [("row", "new")])
ROWS = {"a": ("open", None, "x"), "b": ("open", "a")}
SHUT = {"a": ("done",), "b": ("open", "a")}
LATE = {"whole": "late", "some": "late", "code": "late"}


class Failed(Exception):
    pass


class Reference:
    """A run, said in another way than the package does: failures are errors."""

    def __init__(self, script, tables, modes):
        self.schema, self.tables = script.schema, tables
        self.modes = {name: modes.get(name, "now") for name in self.schema.names()}
        self.begin = (tables, self.modes)
        self.caught, self.events, self.behind, self.words, self.end = [], [], [], {}, None
        try:
            self.body(script.body(), ())
            self.check((), [(name, "behind") for name in self.schema.names() if self.modes[name] == "late"], None)
        except Failed as failed:
            self.end = failed.args
            self.tables, self.modes = self.begin

    def body(self, body, ahead):
        for at, item in enumerate(body):
            address = (*ahead, at)
            if item[0] in ("put", "change", "take", "switch"):
                self.words[address] = "failed"
                self.single(address, item)
                self.words[address] = "done"
                self.behind.append((address, self.tables))
            else:
                self.block(address, item)

    def block(self, address, item):
        kept = (self.tables, self.modes)
        try:
            self.body(item[1], (*address, 0))
        except Failed as failed:
            if item[0] == "trial" or failed.args[1] not in item[2]:
                raise
            self.caught.append(failed.args)
            self.tables, self.modes = kept
        else:
            if item[0] == "trial":
                self.tables, self.modes = kept
            return
        self.body(item[3], (*address, 1))

    def single(self, address, item):
        before, names = self.tables, self.schema.names()
        if item[0] == "switch":
            self.modes = {**self.modes, **{name: item[2] for name in item[1]}}
            checks = [(name, "behind") for name in names if name in item[1] and item[2] != "late"]
        else:
            self.tables = done(before, item)
            ways = {"each": "within", "now": "behind"}
            checks = [(name, ways[self.modes[name]]) for name in names if self.modes[name] != "late"]
        self.check(address, checks, (before, item))

    def check(self, address, checks, inside):
        for name, way in checks:
            passed = holds_within(*inside, name) if way == "within" else holds(self.tables, name)
            self.events.append((address, name, way, passed))
            if not passed:
                raise Failed(address, name)

    def path(self):
        return (tuple(self.caught), self.end)


class RunCase(RaisesCase):
    def check(self, body, rows, given, path, **told):
        """That a run goes a path, and what else is told of it."""
        script = Script(tree(), body)
        tables = tasks(rows)
        self.compare(script, tables, given)
        gone, end = run(script, tables, given)
        self.assertEqual(gone, path)
        if "end" in told:
            self.assertEqual(end, tasks(told["end"]))
        if "events" in told:
            self.assertEqual(events(script, tables, given), told["events"])
        if "modes" in told:
            self.assertEqual(final_modes(script, tables, given), told["modes"])
        if "where" in told:
            self.assertEqual(where(script, tables, given), told["where"])

    def compare(self, script, tables, modes):
        """That all that is told of a run is as the reference has it, each time; returns the reference."""
        before = [Script(script.schema, script.body()), tables.copied(), copy.deepcopy(modes)]
        reference = Reference(script, tables.copied(), modes)
        for _ in range(2):
            path, end = run(script, tables, modes)
            self.assertEqual([path, end], [reference.path(), reference.tables])
            self.assertEqual(events(script, tables, modes), reference.events)
            self.assertTrue(all(isinstance(event[3], bool) for event in events(script, tables, modes)))
            self.assertEqual(list(moments(script, tables, modes)), reference.behind)
            self.assertEqual(final_modes(script, tables, modes), reference.modes)
            self.assertEqual(list(final_modes(script, tables, modes)), sorted(reference.modes))
            words = where(script, tables, modes)
            single = [at for at in script.addresses() if script.statement_at(at)[0] not in ("trial", "try")]
            self.assertEqual(words, {at: reference.words.get(at, "unmet") for at in single})
            self.assertEqual(list(words), single)
            end.drop(end.table_of(end.ids()[0]), end.ids()[0]) if len(end) else None
        self.assertEqual([script, tables, modes], before)
        return reference


class SingleTest(RunCase):
    def test_each_sort(self):
        self.check([], ROWS, {}, ((), None), end=ROWS, events=[], where={})
        self.check([CUT], ROWS, {}, ((), None), end={"a": ROWS["a"], "b": ("open",)},
                   events=[((0,), name, "behind", True) for name in ["whole", "some", "code"]], where={(0,): "done"})
        self.check([NEW, TAKE, NEW[:1] + ("n",) + NEW[2:]], ROWS, {"some": "late"}, ((), None),
                   end={"+n": ("open", None, "+n.code")})
        self.check([TAKE], ROWS, {}, ((), ((0,), "some")), end=ROWS, where={(0,): "failed"},
                   events=[((0,), "whole", "behind", True), ((0,), "some", "behind", False)])
        self.check([("switch", ["code", "whole"], "late"), ("switch", ["code"], "each")], ROWS, {}, ((), None),
                   modes={"code": "each", "some": "now", "whole": "late"},
                   events=[((1,), "code", "behind", True), ((), "whole", "behind", True)])

    def test_a_failure_ends_the_run(self):
        self.check([CUT, TAKE, NEW], ROWS, {"code": "each"}, ((), ((1,), "some")), end=ROWS,
                   modes={"code": "each", "some": "now", "whole": "now"},
                   where={(0,): "done", (1,): "failed", (2,): "unmet"})

    def test_at_a_switch(self):
        self.check([END, ("switch", ["code", "whole"], "now")], ROWS, {"whole": "late"}, ((), ((1,), "whole")), end=ROWS,
                   modes={"code": "now", "some": "now", "whole": "late"}, where={(0,): "done", (1,): "failed"})
        self.check([END, ("switch", ["whole"], "late"), CUT], ROWS, {"whole": "late"}, ((), None))

    def test_at_the_end(self):
        self.check([END], ROWS, LATE, ((), ((), "whole")), end=ROWS, modes=LATE, where={(0,): "done"},
                   events=[((), "whole", "behind", False)])
        self.check([TAKE], ROWS, LATE, ((), ((), "some")), events=[
            ((), "whole", "behind", True), ((), "some", "behind", False)])
        self.check([("try", [TAKE], ["some"], [])], ROWS, LATE, ((), ((), "some")), where={(0, 0, 0): "done"})
        self.check([TAKE], ROWS, {"some": "late"}, ((), ((), "some")))

    def test_within(self):
        shut = ("change", "task", [], {"state": "done", "boss": None})
        self.check([shut], ROWS, {"whole": "each"}, ((), ((0,), "whole")), events=[((0,), "whole", "within", False)])
        self.check([shut], ROWS, {"whole": "now"}, ((), None), end={"a": ("done", None, "x"), "b": ("done",)})


class BlocksTest(RunCase):
    def test_trial(self):
        inside = [END, ("switch", ["some"], "late"), CUT]
        self.check([("trial", inside), TOP], {"b": ("open", "b")}, {"whole": "late"}, ((), None),
                   end={"b": ("open", "b"), "+top": ("open", "+top", "x")},
                   modes={"code": "now", "some": "now", "whole": "late"},
                   where={(0, 0, 0): "done", (0, 0, 1): "done", (0, 0, 2): "done", (1,): "done"})
        self.check([("trial", [TAKE, NEW]), CUT], ROWS, {}, ((), ((0, 0, 0), "some")),
                   where={(0, 0, 0): "failed", (0, 0, 1): "unmet", (1,): "unmet"})
        self.check([("trial", []), ("trial", [("trial", [TAKE])])], ROWS, LATE, ((), None), end=ROWS)

    def test_try(self):
        self.check([("try", [CUT, TAKE], ["some"], [NEW])], ROWS, {}, ((((0, 0, 1), "some"),), None),
                   end={**ROWS, "+new": ("open", None, "+new.code")},
                   where={(0, 0, 0): "done", (0, 0, 1): "failed", (0, 1, 0): "done"})
        self.check([("try", [CUT], ["some"], [NEW])], ROWS, {}, ((), None), end={"a": ROWS["a"], "b": ("open",)},
                   where={(0, 0, 0): "done", (0, 1, 0): "unmet"})
        self.check([("try", [TAKE], ["whole"], [NEW]), CUT], ROWS, {}, ((), ((0, 0, 0), "some")),
                   where={(0, 0, 0): "failed", (0, 1, 0): "unmet", (1,): "unmet"})
        self.check([("try", [TAKE], [], [])], ROWS, {}, ((), ((0, 0, 0), "some")))
        self.check([("try", [], ["some"], [TAKE])], ROWS, {}, ((), None), end=ROWS)

    def test_failures_in_other(self):
        inner = ("try", [TAKE], ["some", "whole"], [END])
        self.check([inner], ROWS, {}, ((((0, 0, 0), "some"),), ((0, 1, 0), "whole")), end=ROWS)
        self.check([("try", [inner], ["whole"], [CUT])], ROWS, {},
                   ((((0, 0, 0, 0, 0), "some"), ((0, 0, 0, 1, 0), "whole")), None), end={"a": ROWS["a"], "b": ("open",)})

    def test_an_outer_one_catches(self):
        deep = ("trial", [("try", [CUT, TAKE], ["whole"], [NEW])])
        self.check([("try", [("switch", ["code"], "late"), deep], ["some"], [END])], {"a": ("open",)}, {},
                   ((((0, 0, 1, 0, 0, 0, 1), "some"),), None), end={"a": ("done",)},
                   modes={"code": "now", "some": "now", "whole": "now"},
                   where={(0, 0, 0): "done", (0, 0, 1, 0, 0, 0, 0): "done", (0, 0, 1, 0, 0, 0, 1): "failed",
                          (0, 0, 1, 0, 0, 1, 0): "unmet", (0, 1, 0): "done"})

    def test_two_that_catch(self):
        both = [("try", [TAKE], ["some"], []), ("try", [END], ["whole"], [("try", [TAKE], ["some"], [CUT])])]
        self.check(both, ROWS, {}, ((((0, 0, 0), "some"), ((1, 0, 0), "whole"), ((1, 1, 0, 0, 0), "some")), None),
                   end={"a": ROWS["a"], "b": ("open",)})

    def test_modes_within_a_try_that_catches(self):
        body = [("try", [("switch", ["some", "code"], "late"), END], ["whole"], [TAKE])]
        self.check(body, ROWS, {}, ((((0, 0, 1), "whole"),), ((0, 1, 0), "some")))
        body = [("try", [("switch", ["some", "code"], "late"), CUT], ["whole"], []), TAKE, NEW]
        self.check(body, ROWS, {}, ((), None), modes={"code": "late", "some": "late", "whole": "now"})

    def test_at_a_switch_in_a_try(self):
        body = [("try", [END, ("switch", ["whole"], "now"), CUT], ["whole"], [CUT, END])]
        self.check(body, ROWS, {"whole": "late"}, ((((0, 0, 1), "whole"),), None),
                   end={"a": ("done",), "b": ("done",)}, modes={"code": "now", "some": "now", "whole": "late"})

    def test_a_unique_rule_is_caught_by_nobody(self):
        twice = [("put", "h", "task", {"state": "open", "boss": None, "code": ("word", "x")})]
        self.check([("try", twice, ["whole", "some"], [])], ROWS, {}, ((), ((0, 0, 0), "code")))

    def test_ends_of_blocks_check_nothing(self):
        body = [("try", [END], ["whole"], []), ("trial", [TAKE]), CUT]
        self.check(body, ROWS, LATE, ((), None), events=[
            ((), name, "behind", True) for name in ["whole", "some", "code"]])


class ErrorsTest(RunCase):
    def every(self, script, tables, modes):
        """All functions that do a run, without arguments."""
        return [lambda: run(script, tables, modes), lambda: events(script, tables, modes),
                lambda: next(moments(script, tables, modes)), lambda: final_modes(script, tables, modes),
                lambda: where(script, tables, modes), lambda: next(unchecked(script, tables))]

    def test_illegal(self):
        script = Script(tree(), [TAKE, NEW])
        for rows, rule in [({}, "some"), (SHUT, "whole"), ({"a": ("open", None, "x"), "b": ("open", None, "x")}, "code")]:
            for modes in [{}, LATE]:
                for call in self.every(script, tasks(rows), modes):
                    self.refused(Illegal, "rule", rule, call)

    def test_illegal_ahead_of_full(self):
        tables = many_tasks(200)
        row = tables["task", tables.ids()[0]]
        tables["task", tables.ids()[0]] = {**row, "boss": "nobody"}
        for call in self.every(Script(tree(), [NEW]), tables, LATE):
            self.refused(Illegal, "rule", "whole", call)

    def test_full(self):
        for body in [[NEW], [CUT, NEW], [("try", [NEW], ["whole", "some"], [])], [("trial", [("trial", [NEW])])],
                     [("try", [END, TAKE], ["whole", "some"], [NEW])]]:
            script = Script(tree(), body)
            tables = many_tasks(200)
            before = tables.copied()
            for call in self.every(script, tables, {})[:5]:
                self.refused(Full, "limit", 200, call)
            self.assertEqual(tables, before)
        self.refused(Full, "limit", 200, next, unchecked(Script(tree(), [CUT, NEW]), many_tasks(200)))

    def test_not_full(self):
        self.assertEqual(run(Script(tree(), [NEW]), many_tasks(199), {})[0], ((), None))
        one = ("change", "task", [], {"code": None})
        self.refused(Full, "limit", 200, run, Script(tree(), [one, NEW, TOP]), many_tasks(199), {})
        self.assertEqual(run(Script(tree(), [TAKE, NEW]), many_tasks(200), LATE)[0], ((), None))
        # The put is not come to: a failure ends the run, or a try does not catch.
        self.assertEqual(run(Script(tree(), [TAKE, NEW]), many_tasks(200), {})[0], ((), ((0,), "some")))
        body = [("try", [CUT], ["whole"], [NEW])]
        self.assertEqual(run(Script(tree(), body), many_tasks(200), {})[0], ((), None))
        # What is put in a trial is not there behind it.
        self.assertEqual(run(Script(tree(), [("trial", [NEW]), TOP]), many_tasks(199), {})[0], ((), None))
        self.assertEqual(len(list(unchecked(Script(tree(), [TAKE, NEW]), many_tasks(200)))), 2)
        self.refused(Full, "limit", 200, next, unchecked(Script(tree(), [TAKE, NEW, TOP][1:]), many_tasks(199)))

    def test_full_ahead_of_rules(self):
        clash = ("put", "h", "task", {"state": "open", "boss": None, "code": ("word", "x")})
        tables = many_tasks(200)
        tables["task", tables.ids()[0]] = {"state": "open", "boss": None, "code": "x"}
        self.refused(Full, "limit", 200, run, Script(tree(), [clash]), tables, {})


class MomentsTest(RunCase):
    def test_moments(self):
        body = [("trial", [END]), ("try", [("switch", ["some"], "late"), TAKE], ["some"], []), CUT]
        script, start = Script(tree(), body), tasks({"b": ("open", "b")})
        self.assertEqual(list(moments(script, start, {})), [
            ((0, 0, 0), start), ((1, 0, 0), start), ((1, 0, 1), tasks({})), ((2,), tasks({}))])
        script = Script(tree(), [("try", [CUT, TAKE], ["some"], [NEW])])
        cut = {"b": ("open",)}
        self.assertEqual(list(moments(script, start, {})), [
            ((0, 0, 0), tasks(cut)), ((0, 1, 0), tasks({"b": ("open", "b"), "+new": ("open", None, "+new.code")}))])

    def test_unchecked(self):
        body = [TAKE, ("switch", ["some"], "now"), NEW, ("switch", ["whole"], "each"), END]
        script = Script(tree(), body)
        self.assertEqual(list(unchecked(script, tasks(ROWS))), [
            ((0,), tasks({})), ((2,), tasks({"+new": ("open", None, "+new.code")})), ((4,), tasks({"+new": ("done",)}))])
        self.assertEqual(list(unchecked(Script(tree(), []), tasks(ROWS))), [])
        self.assertEqual(list(unchecked(Script(tree(), [("switch", ["some"], "now")]), tasks(ROWS))), [])

    def test_generators(self):
        script, start = Script(tree(), [CUT, ("switch", ["some"], "late"), TAKE]), tasks(ROWS)
        for make in [lambda: moments(script, start, {}), lambda: unchecked(script, start)]:
            told = list(make())
            gone = make()
            self.assertIsInstance(gone, types.GeneratorType)
            address, tables = next(gone)
            self.assertEqual([address, tables], list(told[0]))
            tables.drop("task", "a")
            self.assertEqual(list(gone), told[1:])
            left = make()
            next(left)
            left.close()
            self.assertEqual(list(make()), told)
        self.assertEqual(start, tasks(ROWS))

    def test_tables_told_are_all_new(self):
        script = Script(tree(), [("switch", ["some"], "late"), ("switch", ["some"], "now"), ("change", "task", [], {"code": None})])
        gone = [tables for _, tables in moments(script, tasks(ROWS), {})]
        for tables in gone:
            tables.drop("task", "b")
        self.assertEqual([tables.ids() for tables in gone], [["a"]] * 3)


class DrawnTest(RunCase):
    def draw(self, seed):
        chance = random.Random(seed)
        schema = draw_schema(chance, many_rules=4)
        script = draw_script(chance, schema, chance.choice([2, 3, 4]), chance.choice([0, 2, 3]))
        return script, draw_legal(chance, schema), draw_modes(chance, schema)

    def test_runs(self):
        seen = []
        for seed in range(600):
            script, tables, modes = self.draw(seed)
            if tables is not None:
                reference = self.compare(script, tables, modes)
                seen.append((len(reference.caught), reference.end is None))
                if script.is_plain():
                    self.compare_unchecked(script, tables)
        self.assertEqual({(0, True), (0, False), (1, True), (1, False)} - set(seen), set())

    def compare_unchecked(self, script, tables):
        late = {name: "late" for name in script.schema.names()}
        single = [statement for statement in script.body() if statement[0] != "switch"]
        bare = Script(script.schema, single)
        places = [(at,) for at, statement in enumerate(script.body()) if statement[0] != "switch"]
        awaited = [there for _, there in moments(bare, tables, late)]
        self.assertEqual(list(unchecked(script, tables)), list(zip(places, awaited)))

    def test_undone(self):
        """Guarantee 13: a script in a trial leads to what was ahead of it; in a try that catches, too."""
        for seed in range(300):
            script, tables, modes = self.draw(seed)
            names = script.schema.names()
            if tables is None or not names or len(script) > 10 or max(map(len, [(), *script.addresses()])) > 5:
                continue
            rest = ("switch", names[:1], "late")
            inside = Script(script.schema, [("trial", script.body()), rest])
            path, end = run(inside, tables, modes)
            if path[1] is None:
                before = {name: modes.get(name, "now") for name in names}
                self.assertEqual([end, final_modes(inside, tables, modes)], [tables, {**before, rest[1][0]: "late"}])
            caught = [rule[0] for rule in script.schema.rules() if rule[1] != "unique"]
            inside = Script(script.schema, [("try", script.body(), caught, [])])
            path, end = run(inside, tables, modes)
            if path[1] is None and path[0] and len(path[0][-1][0]) > 2:
                before, own = run(script, tables, modes)[0], [(at[2:], rule) for at, rule in path[0]]
                if before[1] == own[-1]:
                    self.assertEqual(end, tables)

    def test_once_more(self):
        """Guarantee 14: a script that is run again goes the same path."""
        for seed in range(100):
            script, tables, modes = self.draw(seed)
            if tables is not None:
                again = Script(script.schema, script.body())
                full = {name: modes.get(name, "now") for name in script.schema.names()}
                self.assertEqual(run(script, tables, modes), run(again, tables.copied(), full))
                self.assertEqual(events(script, tables, modes), events(again, tables.copied(), full))

    def test_plain_scripts_as_stores_do_them(self):
        for seed in range(200):
            script, tables, modes = self.draw(seed)
            if tables is not None and script.is_plain() and run(script, tables, modes)[0] == ((), None):
                store = Store(script.schema, tables, modes)
                for statement in script.body():
                    store.do(statement)
                store.finish()
                self.assertEqual([store.tables(), store.modes()],
                                 [run(script, tables, modes)[1], final_modes(script, tables, modes)])


class RulesTest(RunCase):
    def test_rules_of_other_orders(self):
        script = Script(tree(RULES[::-1]), [TAKE])
        tables = tasks(ROWS, RULES[::-1])
        self.assertEqual(events(script, tables, {"whole": "late"}), [
            ((0,), "code", "behind", True), ((0,), "some", "behind", False)])
        self.assertEqual(events(Script(tree(RULES[::-1]), [NOBODY, NEW]), tables, {"code": "each", "some": "late"}), [
            ((at,), name, way, True) for at in [0, 1] for name, way in [("code", "within"), ("whole", "behind")]
        ] + [((), "some", "behind", True)])


if __name__ == "__main__":
    unittest.main()
