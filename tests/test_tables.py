"""Points 3, 4 and 30: tables."""

import copy
import unittest

from endchecks.errors import BadRow, Full, NoRow, Taken, Wrong
from endchecks.schemas import Schema
from endchecks.tables import Tables
from tests.cases import RaisesCase
from tests.samples import FIELDS, ODD, ROW, RULES, deep, shop, task, tasks, tree

ITEM = {"kind": "big", "maker": "m", "name": "x", "nick": None}
MAKER = {"best": None, "other": None, "name": None}


def put(tables, table, ident, row):
    tables[table, ident] = row


def read(tables, table, ident):
    return tables[table, ident]


def name_of(number):
    """One of many different names."""
    letters = ""
    for _ in range(4):
        letters += "abcdefghijklmnopqrstuvwxyz"[number % 26]
        number //= 26
    return letters


def many_tasks(many, offset=0):
    tables = Tables(tree())
    for number in range(offset, offset + many):
        tables["task", name_of(number)] = task()
    return tables


def mixed():
    tables = Tables(shop())
    tables["item", "i"] = ITEM
    tables["maker", "m"] = {**MAKER, "best": "i", "other": "m", "name": "x"}
    tables["plain", "+p"] = {}
    return tables


class MakingTest(RaisesCase):
    def test_wrong_schema(self):
        for thing in [*ODD, deep(29), Tables(tree()), {"task": FIELDS}, Schema]:
            self.refused(Wrong, "place", 0, Tables, thing)

    def test_empty(self):
        tables = Tables(shop())
        self.assertEqual([len(tables), tables.ids(), tables.names(), tables.rows("item")], [0, [], [], {}])
        self.assertEqual(tables.schema, shop())

    def test_not_iterated(self):
        self.assertRaises(TypeError, list, mixed())


class PutTest(RaisesCase):
    def unchanged(self, tables, kind, field, value, *args):
        before = tables.copied()
        self.refused(kind, field, value, put, tables, *args)
        self.assertEqual(tables, before)
        self.assertEqual([tables.rows(table) for table in tables.schema.tables()],
                         [before.rows(table) for table in tables.schema.tables()])

    def test_put_and_read(self):
        tables = Tables(tree())
        for ident in ["a", "+a", "abcdefgh", "+abcdefgh"]:
            tables["task", ident] = task(boss="+b", code="+a.b")
            self.assertEqual(tables["task", ident], task(boss="+b", code="+a.b"))
        tables["task", "a"] = ROW
        self.assertEqual(tables["task", "a"], ROW)
        self.assertEqual(len(tables), 4)

    def test_wrong_table_or_ident(self):
        odd = [*ODD, deep(28), "other", "tasks", "Task"]
        for tables in [tasks({}), tasks({"a": ()}), many_tasks(200)]:
            for table in odd:
                self.unchanged(tables, Wrong, "place", 0, table, "a", ROW)
                self.unchanged(tables, Wrong, "place", 0, table, "a", None)
            for ident in [*ODD, deep(28), "+a.b", "a b"]:
                self.unchanged(tables, Wrong, "place", 0, "task", ident, ROW)
                self.unchanged(tables, Wrong, "place", 0, "task", ident, {})
                self.unchanged(tables, Wrong, "place", 0, None, ident, ROW)

    def test_bad_rows(self):
        wrong = [*ODD, deep(28), {}, {**ROW, "more": None}, task("shut"), task(True), task(code="+a"), task(boss=True)]
        for tables in [tasks({}), tasks({"a": ()}), many_tasks(200)]:
            for row in wrong:
                self.unchanged(tables, BadRow, "ident", "a", "task", "a", row)
        self.unchanged(mixed(), BadRow, "ident", "i", "plain", "i", {"a": None})

    def test_taken_by_a_row_of_another_table(self):
        tables = mixed()
        self.unchanged(tables, Taken, "ident", "i", "maker", "i", MAKER)
        self.unchanged(tables, Taken, "ident", "+p", "item", "+p", ITEM)
        self.unchanged(tables, Taken, "ident", "m", "plain", "m", {})
        for number in range(197):
            tables["plain", name_of(number)] = {}
        self.assertEqual(len(tables), 200)
        self.unchanged(tables, Taken, "ident", "i", "maker", "i", MAKER)
        self.unchanged(tables, BadRow, "ident", "i", "maker", "i", ITEM)
        self.unchanged(tables, Full, "limit", 200, "maker", "zz", MAKER)
        tables["item", "i"] = {**ITEM, "kind": "small"}

    def test_two_hundred_rows(self):
        tables = many_tasks(199)
        tables["task", "x"] = task()
        self.assertEqual(len(tables), 200)
        self.unchanged(tables, Full, "limit", 200, "task", "y", task())
        self.unchanged(tables, BadRow, "ident", "y", "task", "y", task("shut"))
        tables["task", "x"] = task("done")
        self.assertEqual([tables["task", "x"], len(tables)], [task("done"), 200])
        tables.drop("task", name_of(0))
        tables["task", "y"] = task()
        self.assertEqual(len(tables), 200)


class ReadTest(RaisesCase):
    def test_no_row(self):
        tables = mixed()
        before = tables.copied()
        for thing in [*ODD, deep(28), "x", "+i", "a b"]:
            for table in ["item", "maker", "plain"]:
                self.refused(NoRow, "ident", thing, read, tables, table, thing)
                self.refused(NoRow, "ident", thing, tables.drop, table, thing)
                self.held((table, thing) in tables, False)
        for table in [*ODD, deep(28), "other", "maker"]:
            self.refused(NoRow, "ident", "i", read, tables, table, "i")
            self.refused(NoRow, "ident", "i", tables.drop, table, "i")
            self.held((table, "i") in tables, False)
        self.assertEqual(tables, before)

    def test_the_very_object(self):
        thing = ["x"]
        for call in [lambda: read(mixed(), "item", thing), lambda: mixed().drop("item", thing)]:
            with self.assertRaises(NoRow) as caught:
                call()
            self.assertIs(caught.exception.ident, thing)

    def test_contains(self):
        tables = mixed()
        for pair in [("item", "i"), ("maker", "m"), ("plain", "+p")]:
            self.held(pair in tables, True)
        for thing in [*ODD, deep(29), "i", "item", ["item", "i"], ("item",), ("item", "i", "i"), ("i", "item"),
                      (("item", "i"),), {"item": "i"}, ("item", "m")]:
            self.held(thing in tables, False)
            self.held(thing not in tables, True)

    def test_drop(self):
        tables = mixed()
        self.assertIs(tables.drop("item", "i"), None)
        self.held(("item", "i") in tables, False)
        self.refused(NoRow, "ident", "i", tables.drop, "item", "i")
        self.assertEqual([len(tables), tables.ids()], [2, ["+p", "m"]])
        tables["maker", "i"] = MAKER
        self.assertEqual(tables.table_of("i"), "maker")

    def test_rows_ids_and_table_of(self):
        tables = tasks({"b": ("done",), "+c": (), "a": ("open", "b", "x")})
        self.assertEqual(list(tables.rows("task").items()), [
            ("+c", task()), ("a", task("open", "b", "x")), ("b", task("done"))])
        self.assertEqual(list(tables["task", "a"]), ["boss", "code", "state"])
        self.assertEqual(list(tables.rows("task")["a"]), ["boss", "code", "state"])
        self.assertEqual(tables.ids(), ["+c", "a", "b"])
        self.assertEqual([tables.table_of("a"), tables.table_of("+c"), tables.table_of("c")], ["task", "task", None])
        self.assertEqual([mixed().rows("item"), mixed().rows("plain")], [{"i": ITEM}, {"+p": {}}])
        self.assertEqual([mixed().table_of("i"), mixed().table_of("m"), mixed().table_of("+p")],
                         ["item", "maker", "plain"])
        for thing in ODD:
            self.assertIs(tables.table_of(thing), None)

    def test_target(self):
        tables = mixed()
        tables["maker", "n"] = {"best": "m", "other": "i", "name": None}
        tables["maker", "o"] = {"best": "gone", "other": "n", "name": None}
        targets = [(ident, tables.target("maker", ident, "best"), tables.target("maker", ident, "other"))
                   for ident in "mno"]
        self.assertEqual(targets, [("m", "i", "m"), ("n", None, None), ("o", None, "n")])
        self.assertEqual(tables.target("item", "i", "maker"), "m")

    def test_linked(self):
        tables = mixed()
        tables["maker", "b"] = {"best": "gone", "other": "gone", "name": None}
        tables["item", "c"] = {**ITEM, "maker": "gone"}
        tables["item", "a"] = {**ITEM, "maker": "gone"}
        self.assertEqual(tables.linked("gone"), [
            ("item", "a", "maker"), ("item", "c", "maker"), ("maker", "b", "best"), ("maker", "b", "other")])
        self.assertEqual(tables.linked("m"), [("item", "i", "maker"), ("maker", "m", "other")])
        self.assertEqual([tables.linked("i"), tables.linked("a")], [[("maker", "m", "best")], []])

    def test_names(self):
        tables = mixed()
        tables["item", "a"] = {**ITEM, "name": "z", "nick": "+a.b"}
        tables["item", "b"] = {**ITEM, "name": None, "nick": "z"}
        self.assertEqual(tables.names(), ["+a.b", "x", "z"])


class JoinedTest(RaisesCase):
    def test_joined(self):
        one, other = tasks({"a": ("done",)}), tasks({"b": ("open", "a")})
        both = one.joined(other)
        self.assertEqual(both, tasks({"a": ("done",), "b": ("open", "a")}))
        both["task", "a"] = task("open")
        both.drop("task", "b")
        self.assertEqual([one, other], [tasks({"a": ("done",)}), tasks({"b": ("open", "a")})])
        self.assertEqual(tasks({}).joined(tasks({})), tasks({}))
        self.assertEqual(tasks({}).joined(one), one)

    def test_taken(self):
        one, other = mixed(), Tables(shop())
        for ident in ["z", "m", "i"]:
            other["plain", ident] = {}
        self.refused(Taken, "ident", "i", one.joined, other)
        self.refused(Taken, "ident", "i", other.joined, one)
        self.refused(Taken, "ident", "+p", one.joined, one)
        self.assertEqual([len(one), len(other)], [3, 3])

    def test_full(self):
        one, other = many_tasks(100), many_tasks(100, 100)
        self.assertEqual(len(one.joined(other)), 200)
        more = many_tasks(101, 100)
        self.refused(Full, "limit", 200, one.joined, more)
        self.refused(Full, "limit", 200, more.joined, one)
        more = many_tasks(200, 99)
        self.refused(Taken, "ident", name_of(99), one.joined, more)


class EqualityTest(RaisesCase):
    def test_equality(self):
        one = tasks({"a": ("open", "b", "x"), "b": ()})
        self.held(one == tasks({"b": (), "a": ("open", "b", "x")}), True)
        self.held(one != tasks({"b": (), "a": ("open", "b", "x")}), False)
        for rows in [{"a": ("open", "b", "x")}, {"a": ("open", "b", "y"), "b": ()}, {"a": ("open", "b", "x"), "c": ()},
                     {"a": ("open", "b", "x"), "b": (), "c": ()}, {}]:
            self.held(one == tasks(rows), False)
        self.held(one == tasks({"a": ("open", "b", "x"), "b": ()}, RULES[:2]), False)
        self.held(Tables(tree()) == Tables(tree(RULES[1:])), False)
        turned = Schema({"task": {**FIELDS, "state": ("mark", ["done", "open"])}}, RULES)
        self.held(Tables(tree()) == Tables(turned), True)

    def test_rows_of_other_tables(self):
        schema = Schema({"a": {}, "b": {}})
        one, other = Tables(schema), Tables(schema)
        one["a", "x"] = {}
        other["b", "x"] = {}
        self.held(one == other, False)

    def test_nothing_else_is_equal(self):
        for thing in [*ODD, {}, tree(), {"a": ROW}]:
            self.held(tasks({}) == thing, False)
            self.held(thing == tasks({}), False)


class CopiesTest(RaisesCase):
    def test_rows_passed_in_are_changed_behind(self):
        tables, row = Tables(tree()), dict(ROW)
        tables["task", "a"] = row
        self.assertEqual([row, list(row)], [ROW, list(ROW)])
        row["state"] = "done"
        row["more"] = 1
        self.assertEqual(tables["task", "a"], ROW)

    def test_what_was_told_is_changed_behind(self):
        tables = mixed()
        before = mixed()
        tables["item", "i"]["kind"] = "x"
        tables.rows("item")["i"]["kind"] = "x"
        for told in [tables.rows("item"), tables["item", "i"], tables.ids(), tables.names(), tables.linked("m")]:
            told.clear()
        self.assertEqual(tables, before)
        self.assertEqual(tables.rows("item"), {"i": ITEM})

    def test_copied(self):
        one = mixed()
        other = one.copied()
        self.held(one == other, True)
        other["item", "i"] = {**ITEM, "kind": "small"}
        other["plain", "q"] = {}
        self.assertEqual(one, mixed())
        one.drop("maker", "m")
        self.held(("maker", "m") in other, True)
        self.assertEqual(other["item", "i"]["kind"], "small")
        again = one.copied()
        one["item", "i"] = {**ITEM, "name": None}
        self.assertEqual(again["item", "i"], ITEM)

    def test_rows_of_joined_are_its_own(self):
        one, other = tasks({"a": ()}), tasks({"b": ()})
        both = one.joined(other)
        one["task", "a"] = task("done")
        other.drop("task", "b")
        self.assertEqual(both, tasks({"a": (), "b": ()}))

    def test_queries_change_nothing(self):
        tables = mixed()
        first = [tables.ids(), tables.names(), tables.rows("maker"), tables.linked("i"), len(tables)]
        kept = copy.deepcopy(first)
        self.assertEqual([tables.ids(), tables.names(), tables.rows("maker"), tables.linked("i"), len(tables)], kept)


if __name__ == "__main__":
    unittest.main()
