"""Point 42: what statements do."""

import copy
import itertools
import random
import unittest

from endchecks.doing import (
    done, holds_within, part_done, spots_within, stages, touched)
from endchecks.errors import Full, Taken
from endchecks.spots import spots
from endchecks.tables import Tables
from tests.cases import RaisesCase
from tests.samples import shop, task, tasks, tree
from tests.test_spots import SHOP_RULES, random_tables
from tests.test_tables import many_tasks, name_of

END = ("change", "task", [("none", "boss")], {"state": "done", "code": None})
TOP = ("put", "top", "task", {"state": "open", "boss": ("new", "top"), "code": ("word", "x")})
ROWS = {"a": ("open", None, "x"), "b": ("open", "a"), "c": ("done", "gone", "y")}


class DoneTest(RaisesCase):
    def check(self, tables, statement, ids, awaited):
        before, kept = tables.copied(), copy.deepcopy(statement)
        self.assertEqual(touched(tables, statement), ids)
        self.assertEqual(done(tables, statement), awaited)
        self.assertEqual([tables, statement], [before, kept])

    def test_put(self):
        awaited = tasks({**ROWS, "+top": ("open", "+top", "x")})
        self.check(tasks(ROWS), TOP, ["+top"], awaited)
        self.assertEqual(list(done(tasks(ROWS), TOP)["task", "+top"]), ["boss", "code", "state"])
        own = ("put", "n", "task", {"state": "done", "boss": ("new", "other"), "code": ("own",)})
        self.check(tasks({}), own, ["+n"], tasks({"+n": ("done", "+other", "+n.code")}))
        bare = ("put", "n", "task", {"state": "done", "boss": None, "code": None})
        self.check(tasks({"n": ()}), bare, ["+n"], tasks({"n": (), "+n": ("done",)}))

    def test_change(self):
        self.check(tasks(ROWS), END, ["a"], tasks({**ROWS, "a": ("done",)}))
        to_new = ("change", "task", [], {"boss": ("new", "top")})
        self.check(tasks(ROWS), to_new, ["a", "b", "c"],
                   tasks({"a": ("open", "+top", "x"), "b": ("open", "+top"), "c": ("done", "+top", "y")}))
        self.check(tasks({}), to_new, [], tasks({}))

    def test_rows_that_stay_equal(self):
        same = ("change", "task", [("is", "state", ["open"])], {"state": "open"})
        self.check(tasks(ROWS), same, ["a", "b"], tasks(ROWS))
        own = ("change", "task", [], {"boss": ("field", "boss"), "code": ("field", "code")})
        self.check(tasks(ROWS), own, ["a", "b", "c"], tasks(ROWS))
        self.assertEqual(stages(tasks(ROWS), same, "a"), [task("open", None, "x")] * 2)

    def test_values_are_those_of_the_row_as_it_was(self):
        tables = Tables(shop())
        tables["item", "a"] = {"kind": "big", "maker": "m", "name": "x", "nick": "y"}
        tables["item", "b"] = {"kind": "big", "maker": None, "name": None, "nick": "z"}
        swap = ("change", "item", [], {"name": ("field", "nick"), "nick": ("field", "name"), "maker": ("field", "maker")})
        after = done(tables, swap)
        self.assertEqual(after["item", "a"], {"kind": "big", "maker": "m", "name": "y", "nick": "x"})
        self.assertEqual(after["item", "b"], {"kind": "big", "maker": None, "name": "z", "nick": None})
        self.assertEqual(list(after["item", "a"]), ["kind", "maker", "name", "nick"])

    def test_tests_are_asked_ahead_of_the_statement(self):
        chain = ("change", "task", [("at", "boss", [("is", "state", ["open"])])], {"state": "done"})
        rows = {"a": ("open", "a"), "b": ("open", "a"), "c": ("open", "b"), "d": ("open", "e"), "e": ("done",)}
        self.check(tasks(rows), chain, ["a", "b", "c"],
                   tasks({**rows, "a": ("done", "a"), "b": ("done", "a"), "c": ("done", "b")}))

    def test_take(self):
        self.check(tasks(ROWS), ("take", "task", [("not", ("none", "boss"))]), ["b", "c"], tasks({"a": ROWS["a"]}))
        self.check(tasks(ROWS), ("take", "task", []), ["a", "b", "c"], tasks({}))
        self.check(tasks(ROWS), ("take", "task", [("row", "a")]), [], tasks(ROWS))
        self.check(tasks({"+a": (), "a": ()}), ("take", "task", [("row", "a")]), ["+a"], tasks({"a": ()}))

    def test_other_tables_are_left(self):
        tables = Tables(shop())
        tables["plain", "p"] = {}
        tables["maker", "m"] = {"best": "p", "other": "m", "name": "x"}
        awaited = tables.copied()
        awaited.drop("maker", "m")
        self.check(tables, ("take", "maker", []), ["m"], awaited)
        self.check(awaited, ("put", "q", "plain", {}), ["+q"], self.with_row(awaited, "plain", "+q", {}))

    def with_row(self, tables, table, ident, row):
        after = tables.copied()
        after[table, ident] = row
        return after

    def test_part_done(self):
        cut = ("change", "task", [("not", ("none", "boss"))], {"boss": None})
        for ids, changed in [([], ""), (["b"], "b"), (["c", "b"], "bc"), (["a", "x", "c", "c"], "c"), (["+b", None], "")]:
            awaited = {ident: (row[0], None, *row[2:]) if ident in changed else row for ident, row in ROWS.items()}
            given = list(ids)
            self.assertEqual(part_done(tasks(ROWS), cut, given), tasks(awaited))
            self.assertEqual(given, ids)
        take = ("take", "task", [])
        self.assertEqual(part_done(tasks(ROWS), take, ["a", "c"]), tasks({"b": ROWS["b"]}))
        self.assertEqual(part_done(tasks(ROWS), TOP, []), tasks(ROWS))
        self.assertEqual(part_done(tasks(ROWS), TOP, ["top", "a"]), tasks(ROWS))
        self.assertEqual(part_done(tasks(ROWS), TOP, ["+top"]), done(tasks(ROWS), TOP))

    def refuse(self, kind, field, value, tables, statement):
        before = tables.copied()
        self.refused(kind, field, value, touched, tables, statement)
        self.refused(kind, field, value, done, tables, statement)
        for ids in [[], ["a"], ["+top"]]:
            self.refused(kind, field, value, part_done, tables, statement, ids)
        self.assertEqual(tables, before)

    def test_taken_ahead_of_full(self):
        self.refuse(Taken, "ident", "+top", tasks({"+top": ()}), TOP)
        tables = many_tasks(199)
        self.assertEqual(len(done(tables, TOP)), 200)
        tables["task", "xxx"] = task()
        self.refuse(Full, "limit", 200, tables, TOP)
        tables.drop("task", "xxx")
        tables["task", "+top"] = task()
        self.refuse(Taken, "ident", "+top", tables, TOP)
        put_plain = ("put", "top", "plain", {})
        tables = Tables(shop())
        tables["maker", "+top"] = {"best": None, "other": None, "name": None}
        self.refuse(Taken, "ident", "+top", tables, put_plain)

    def test_two_hundred_rows_are_changed_and_taken(self):
        tables = many_tasks(200)
        self.assertEqual(len(touched(tables, END)), 200)
        self.assertEqual(len(done(tables, END)), 200)
        self.assertEqual(len(done(tables, ("take", "task", []))), 0)
        self.assertEqual(len(part_done(tables, ("take", "task", []), [name_of(3)])), 199)

    def test_results_are_new(self):
        tables = tasks(ROWS)
        for after in [done(tables, ("take", "task", [("row", "a")])), part_done(tables, END, [])]:
            after.drop("task", "a")
            after["task", "b"] = task("done")
        touched(tables, END).clear()
        stages(tables, END, "a")[0].clear()
        self.assertEqual(tables, tasks(ROWS))


class StagesTest(RaisesCase):
    def test_stages(self):
        tables = tasks(ROWS)
        self.assertEqual(stages(tables, END, "a"), [task("open", None, "x"), task("done")])
        self.assertEqual(stages(tables, END, "b"), [task("open", "a")])
        self.assertEqual(stages(tables, END, "z"), [None])
        self.assertEqual(stages(tables, TOP, "+top"), [None, task("open", "+top", "x")])
        self.assertEqual([list(stage) for stage in stages(tables, TOP, "+top")[1:]], [["boss", "code", "state"]])
        self.assertEqual([list(stage) for stage in stages(tables, END, "a")], [["boss", "code", "state"]] * 2)
        self.assertEqual(stages(tables, TOP, "a"), [task("open", None, "x")])
        take = ("take", "task", [("row", "a"), ("none", "boss")])
        self.assertEqual(stages(tables, take, "a"), [task("open", None, "x")])
        self.assertEqual(stages(tables, ("take", "task", []), "c"), [task("done", "gone", "y"), None])
        self.assertEqual(stages(tables, ("take", "task", []), "d"), [None])


def spots_by_definition(tables, statement, name):
    """The spots behind each part of a statement, put together."""
    ids = touched(tables, statement)
    found = set()
    for many in range(len(ids) + 1):
        for part in itertools.combinations(ids, many):
            found |= set(spots(part_done(tables, statement, list(part)), name))
    return sorted(found)


def random_test(chance, schema, table):
    fields = schema.fields(table)
    tests = [("row", chance.choice(["top", "other"]))]
    for name, field in fields.items():
        if field[0] == "mark":
            tests += [("is", name, [chance.choice(field[1])])] * 2
        else:
            tests.append(("none", name))
        if field[0] == "link":
            inner = [("none", chance.choice([*schema.links(field[1]), *schema.tags(field[1])]))]
            tests += [("new", name, "top"), ("at", name, inner), ("at", name, [("not", inner[0])])]
    test = chance.choice(tests)
    return ("not", test) if chance.random() < 0.5 else test


def random_set_value(chance, schema, table, field):
    sort = schema.fields(table)[field]
    others = [name for name, other in schema.fields(table).items() if other == sort]
    if sort[0] == "mark":
        return chance.choice(sort[1])
    if sort[0] == "link":
        return chance.choice([None, ("new", "top"), ("field", chance.choice(others))])
    return chance.choice([None, ("field", chance.choice(others))])


def random_put_value(chance, field):
    if field[0] == "mark":
        return chance.choice(field[1])
    if field[0] == "link":
        return chance.choice([None, ("new", "top"), ("new", "other")])
    return chance.choice([None, ("own",), ("word", "x"), ("word", "y")])


def random_statement(chance, schema):
    table = chance.choice(["item", "maker", "maker"])
    fields = schema.fields(table)
    word = chance.choice(["put", "change", "change", "take"])
    if word == "put":
        return ("put", "top", table, {name: random_put_value(chance, fields[name]) for name in fields})
    tests = [random_test(chance, schema, table) for _ in range(chance.randint(0, 2))]
    if word == "take":
        return ("take", table, tests)
    names = chance.sample(sorted(fields), chance.randint(1, len(fields)))
    return ("change", table, tests, {name: random_set_value(chance, schema, table, name) for name in names})


class WithinTest(RaisesCase):
    def check(self, tables, statement, name, awaited):
        self.assertEqual(spots_by_definition(tables, statement, name), awaited)
        before, kept = tables.copied(), copy.deepcopy(statement)
        self.assertEqual(spots_within(tables, statement, name), awaited)
        self.held(holds_within(tables, statement, name), awaited == [])
        self.assertEqual([tables, statement], [before, kept])

    def test_examples(self):
        few = tasks({"a": ("open", None, "x"), "b": ("open", "a")})
        self.check(few, ("change", "task", [("not", ("none", "boss"))], {"boss": None}), "whole", [])
        self.check(few, TOP, "code", [("+top", "a")])
        self.check(few, END, "whole", [("b", "a")])

    def test_a_spot_that_comes_only_when_a_part_is_done(self):
        few = tasks({"a": ("open", None, "x"), "b": ("open", "a", "y")})
        both = ("change", "task", [], {"state": "done", "boss": None})
        self.assertEqual(spots(done(few, both), "whole"), [])
        self.check(few, both, "whole", [("b", "a")])
        tables = Tables(shop([("nicks", "unique", "item", "nick")]))
        tables["item", "a"] = {"kind": "big", "maker": None, "name": "x", "nick": "y"}
        tables["item", "b"] = {"kind": "big", "maker": None, "name": "y", "nick": "x"}
        swap = ("change", "item", [], {"name": ("field", "nick"), "nick": ("field", "name")})
        self.assertEqual([spots(tables, "nicks"), spots(done(tables, swap), "nicks")], [[], []])
        self.check(tables, swap, "nicks", [("a", "b")])

    def test_some(self):
        rules = [("any", "some", "task", [("is", "state", ["open"])])]
        turn = ("change", "task", [("is", "state", ["open"])], {"state": "done"})
        self.check(tasks({"a": ()}, rules), turn, "any", [()])
        self.check(tasks({"a": ()}, rules), ("take", "task", [("none", "boss")]), "any", [()])
        self.check(tasks({"a": ("done",)}, rules), TOP, "any", [()])
        self.check(tasks({"a": (), "b": ()}, rules), ("take", "task", [("row", "a")]), "any", [])
        same = ("change", "task", [], {"state": "open"})
        self.check(tasks({"a": (), "b": ("done",)}, rules), same, "any", [])
        self.check(tasks({"a": ("done",), "b": ("done",)}, rules), same, "any", [()])

    def test_rows_that_link_to_themselves(self):
        rules = [("alike", "link", "task", "boss", [("is", "state", ["open"])], [("is", "state", ["open"])])]
        turn = ("change", "task", [], {"state": "done"})
        self.check(tasks({"a": ("open", "a")}, rules), turn, "alike", [])
        self.check(tasks({"a": ("open", "a"), "b": ("open", "a")}, rules), turn, "alike", [("b", "a")])
        self.check(tasks({"a": ("open", "a")}, rules), ("take", "task", []), "alike", [])
        self.check(tasks({}, rules), TOP, "alike", [])
        self.check(tasks({"a": ("open", "+top")}, rules), TOP, "alike", [("a", "+top")])
        done_top = ("put", "top", "task", {"state": "done", "boss": ("new", "top"), "code": None})
        self.check(tasks({"a": ("open", "a")}, rules), done_top, "alike", [])
        to_top = ("change", "task", [("row", "top")], {"boss": ("new", "top")})
        self.check(tasks({"+top": ("open", "gone")}, rules), to_top, "alike", [("+top", "gone")])

    def test_a_link_that_has_the_id_of_the_own_row_in_another_table(self):
        tables = Tables(shop([("best", "link", "maker", "best", [], [])]))
        tables["maker", "m"] = {"best": "m", "other": None, "name": None}
        self.check(tables, ("change", "maker", [], {"name": None}), "best", [("m", "m")])

    def test_check(self):
        rules = [("all", "check", "task", [("none", "code")])]
        self.check(tasks({}, rules), TOP, "all", [("+top",)])
        self.check(tasks({"a": ("open", None, "x"), "b": ()}, rules), END, "all", [("a",)])
        self.check(tasks({"a": ("open", None, "x"), "b": ()}, rules), ("take", "task", []), "all", [("a",)])

    def test_many_rows(self):
        tables = many_tasks(200)
        self.assertEqual(spots_within(tables, END, "whole"), [])
        self.assertEqual(spots_within(tables, ("take", "task", []), "some"), [()])
        everyone = ("change", "task", [("is", "state", ["open"])], {"state": "done"})
        awaited = []
        for number in range(1, 200):
            tables["task", name_of(number)] = task("open", name_of(0))
            awaited.append((name_of(number), name_of(0)))
        self.assertEqual(spots_within(tables, everyone, "whole"), sorted(awaited))

    def test_by_definition(self):
        chance = random.Random(3)
        seen = set()
        for _ in range(500):
            tables = random_tables(chance)
            statement = random_statement(chance, tables.schema)
            for rule in SHOP_RULES:
                awaited = spots_by_definition(tables, statement, rule[0])
                self.check(tables, statement, rule[0], awaited)
                seen.add((statement[0], rule[0], awaited == spots(tables, rule[0]),
                          awaited == spots(done(tables, statement), rule[0])))
            for ident in [*tables.ids(), "+top", "z"]:
                after = done(tables, statement)
                each = [before[before.table_of(ident), ident] if before.table_of(ident) else None
                        for before in [tables, after]]
                awaited = each if ident in touched(tables, statement) else each[:1]
                self.assertEqual(stages(tables, statement, ident), awaited)
                if ident not in touched(tables, statement):
                    self.assertEqual(each[0], each[1])
        self.assertGreater(len(seen), 40)

    def test_schema_of_the_results(self):
        self.assertEqual(done(tasks({}), TOP).schema, tree())


if __name__ == "__main__":
    unittest.main()
