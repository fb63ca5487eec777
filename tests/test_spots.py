"""Points 31 and 32: spots of rules, and parts of tables."""

import random
import unittest

from endchecks.schemas import Schema
from endchecks.spots import apart, first_broken, holds, is_legal, spot_rows, spots
from endchecks.tables import Tables
from tests.cases import RaisesCase
from tests.samples import RULES, shop, task, tasks

SHOP_RULES = [
    ("whole", "link", "item", "maker", [("is", "kind", ["big"])], [("not", ("none", "name"))]),
    ("best", "link", "maker", "best", [], [("is", "kind", ["small"])]),
    ("other", "link", "maker", "other", [("none", "best")], [("none", "name")]),
    ("kinds", "check", "item", [("is", "kind", ["big"]), ("none", "nick")]),
    ("nicks", "unique", "item", "nick"),
    ("any", "some", "maker", [("none", "other")]),
]


def random_row(chance, schema, table):
    """A row with links and names out of few."""
    row = {}
    for name, field in schema.fields(table).items():
        if field[0] == "mark":
            row[name] = chance.choice(field[1])
        elif field[0] == "link":
            row[name] = chance.choice([None, "a", "b", "c", "d", "e", "+top"])
        else:
            row[name] = chance.choice([None, None, "x", "y", "z", "+top." + name])
    return row


def random_tables(chance, rules=SHOP_RULES, most=5):
    tables = Tables(shop(rules))
    for ident in "abcde"[:chance.randint(0, most)]:
        table = chance.choice(["item", "maker", "maker", "plain"])
        tables[table, ident] = random_row(chance, tables.schema, table)
    return tables


def met(row, tests):
    """Plain tests, said in another way than the package does."""
    for test in tests:
        wanted = True
        while test[0] == "not":
            wanted, test = not wanted, test[1]
        if (row[test[1]] is None if test[0] == "none" else row[test[1]] in test[2]) != wanted:
            return False
    return True


def spots_by_definition(tables, name):
    rule = tables.schema.rule_of(name)
    table = rule[2]
    rows = tables.rows(table)
    if rule[1] == "check":
        return sorted((ident,) for ident in rows if not met(rows[ident], rule[3]))
    if rule[1] == "unique":
        return sorted((one, other) for one in rows for other in rows
                      if one < other and rows[one][rule[3]] is not None and rows[one][rule[3]] == rows[other][rule[3]])
    if rule[1] == "some":
        return [] if [ident for ident in rows if met(rows[ident], rule[3])] else [()]
    others = tables.rows(tables.schema.leads_to(table, rule[3]))
    return sorted((ident, row[rule[3]]) for ident, row in rows.items() if met(row, rule[4]) and row[rule[3]] is not None
                  and not (row[rule[3]] in others and met(others[row[rule[3]]], rule[5])))


class SpotsTest(RaisesCase):
    def check(self, tables, name, awaited):
        self.assertEqual(spots(tables, name), awaited)
        self.held(holds(tables, name), awaited == [])

    def test_check(self):
        rules = [("all", "check", "task", [("is", "state", ["open"]), ("not", ("none", "code"))])]
        rows = {"b": ("done", None, "x"), "c": ("open", None, "x"), "a": ("open",), "+d": ("done",)}
        self.check(tasks(rows, rules), "all", [("+d",), ("a",), ("b",)])
        self.check(tasks({"c": ("open", None, "x")}, rules), "all", [])
        self.check(tasks({}, rules), "all", [])
        self.check(tasks(rows, [("all", "check", "task", [])]), "all", [])

    def test_link(self):
        rules = [("whole", "link", "task", "boss", [("none", "code")], [("is", "state", ["open"])])]
        rows = {"d": ("open",), "e": ("done",), "c": ("open", "e"), "b": ("open", "d"), "a": ("done", "gone"),
                "f": ("open", "gone", "x"), "g": ("done", "g"), "h": ("open", "h"), "i": ("open", "+new")}
        self.check(tasks(rows, rules), "whole", [("a", "gone"), ("c", "e"), ("g", "g"), ("i", "+new")])
        self.check(tasks({"a": ("open",), "b": ("open", "a")}, rules), "whole", [])

    def test_link_to_nobody_breaks_even_without_tests(self):
        rules = [("there", "link", "task", "boss", [], [])]
        self.check(tasks({"a": ("open", "x"), "b": ("open", "a")}, rules), "there", [("a", "x")])

    def test_link_to_a_row_of_another_table(self):
        tables = Tables(shop(SHOP_RULES))
        tables["maker", "m"] = {"best": "n", "other": None, "name": "x"}
        tables["maker", "n"] = {"best": None, "other": "p", "name": None}
        tables["plain", "p"] = {}
        self.check(tables, "best", [("m", "n")])
        self.check(tables, "other", [("n", "p")])

    def test_unique(self):
        rows = {"a": ("open", None, "x"), "b": ("open", None, "x"), "d": ("open", None, "x"), "c": (), "e": (),
                "f": ("open", None, "y"), "+g": ("open", None, "y"), "h": ("open", None, "z")}
        self.check(tasks(rows), "code", [("+g", "f"), ("a", "b"), ("a", "d"), ("b", "d")])
        self.check(tasks({"c": (), "e": (), "a": ("open", None, "x")}), "code", [])

    def test_unique_is_of_one_field_and_one_table(self):
        tables = Tables(shop(SHOP_RULES))
        tables["item", "a"] = {"kind": "big", "maker": None, "name": "x", "nick": "y"}
        tables["item", "b"] = {"kind": "big", "maker": None, "name": "x", "nick": "x"}
        tables["maker", "c"] = {"best": None, "other": None, "name": "y"}
        self.check(tables, "nicks", [])

    def test_some(self):
        rules = [("any", "some", "task", [("is", "state", ["open"])])]
        self.check(tasks({}, rules), "any", [()])
        self.check(tasks({"a": ("done",), "b": ("done",)}, rules), "any", [()])
        self.check(tasks({"a": ("done",), "b": ("open",)}, rules), "any", [])
        self.check(tasks({}), "some", [()])
        self.check(tasks({"a": ()}), "some", [])

    def test_first_broken(self):
        self.assertIs(first_broken(tasks({"a": ()})), None)
        self.held(is_legal(tasks({"a": ()})), True)
        rows = {"a": ("open", "x", "y"), "b": ("done", None, "y")}
        self.assertEqual(first_broken(tasks(rows)), "whole")
        self.assertEqual(first_broken(tasks(rows, RULES[::-1])), "code")
        self.assertEqual(first_broken(tasks(rows, RULES[1:])), "code")
        self.assertEqual(first_broken(tasks({}, RULES)), "some")
        self.held(is_legal(tasks(rows)), False)
        self.held(is_legal(tasks({}, ())), True)

    def test_spot_rows(self):
        self.assertEqual([spot_rows(()), spot_rows(("a",)), spot_rows(("b", "a")), spot_rows(("a", "a"))],
                         [[], ["a"], ["a", "b"], ["a"]])

    def test_by_definition(self):
        chance = random.Random(1)
        for _ in range(400):
            tables = random_tables(chance)
            before = tables.copied()
            broken = []
            for name in tables.schema.names():
                awaited = spots_by_definition(tables, name)
                self.check(tables, name, awaited)
                broken += [name] if awaited else []
            self.assertEqual(first_broken(tables), broken[0] if broken else None)
            self.held(is_legal(tables), not broken)
            self.assertEqual(tables, before)


def has_to_do(tables, one, other):
    """Whether a row links to another one, or has a name that this one has, too."""
    schema, table, its = tables.schema, tables.table_of(one), tables.table_of(other)
    if any(tables.target(table, one, field) == other for field in schema.links(table)):
        return True
    names = [tables[table, one][field] for field in schema.tags(table)]
    return any(tables[its, other][field] is not None and tables[its, other][field] in names for field in schema.tags(its))


def parts_by_definition(tables):
    parts = [[ident] for ident in tables.ids()]
    for one in tables.ids():
        for other in tables.ids():
            if has_to_do(tables, one, other):
                mine = [part for part in parts if one in part or other in part]
                parts = [part for part in parts if part not in mine] + [sorted(sum(mine, []))]
    return sorted(parts)


class ApartTest(RaisesCase):
    def parts(self, tables):
        told = apart(tables)
        for part in told:
            self.assertIsInstance(part, Tables)
            self.assertEqual(part.schema, tables.schema)
            for ident in part.ids():
                table = tables.table_of(ident)
                self.assertEqual(part[table, ident], tables[table, ident])
        return [part.ids() for part in told]

    def test_no_rows(self):
        self.assertEqual(apart(tasks({})), [])

    def test_links(self):
        rows = {"a": ("open", "c"), "b": ("open", "gone"), "c": (), "d": ("open", "d"), "e": ("open", "gone")}
        self.assertEqual(self.parts(tasks(rows)), [["a", "c"], ["b"], ["d"], ["e"]])
        rows = {"a": (), "b": ("open", "d"), "c": ("open", "b"), "d": (), "e": ("open", "d"), "f": ("open", "e")}
        self.assertEqual(self.parts(tasks(rows)), [["a"], ["b", "c", "d", "e", "f"]])

    def test_links_to_rows_of_other_tables_are_none(self):
        tables = Tables(shop())
        tables["maker", "m"] = {"best": "p", "other": "i", "name": None}
        tables["item", "i"] = {"kind": "big", "maker": "p", "name": None, "nick": None}
        tables["plain", "p"] = {}
        self.assertEqual(self.parts(tables), [["i"], ["m"], ["p"]])
        tables["maker", "m"] = {"best": "i", "other": None, "name": None}
        self.assertEqual(self.parts(tables), [["i", "m"], ["p"]])

    def test_names(self):
        rows = {"a": ("open", None, "x"), "b": ("open", None, "y"), "c": ("open", None, "x"), "d": ("done", None, "x"),
                "e": ("open", None, "z"), "f": (), "g": ()}
        self.assertEqual(self.parts(tasks(rows)), [["a", "c", "d"], ["b"], ["e"], ["f"], ["g"]])

    def test_names_in_other_fields_and_tables(self):
        tables = Tables(shop())
        tables["maker", "m"] = {"best": None, "other": None, "name": "x"}
        tables["item", "i"] = {"kind": "big", "maker": None, "name": "y", "nick": "x"}
        tables["item", "j"] = {"kind": "big", "maker": None, "name": "z", "nick": "y"}
        tables["item", "k"] = {"kind": "big", "maker": None, "name": "w", "nick": "w"}
        self.assertEqual(self.parts(tables), [["i", "j", "m"], ["k"]])

    def test_links_and_names_in_a_row(self):
        rows = {"z": ("open", "y"), "y": ("open", None, "n"), "a": ("open", "b", "n"), "b": ("open", None, "m"),
                "x": ("done", "w", "m"), "c": (), "w": ()}
        self.assertEqual(self.parts(tasks(rows)), [["a", "b", "w", "x", "y", "z"], ["c"]])

    def test_many_rows(self):
        schema = Schema({"t": {"up": ("link", "t"), "tag": ("tag",)}})
        tables = Tables(schema)
        names = [one + other for one in "abcdefghij" for other in "abcdefghijklmnopqrst"]
        for at, name in enumerate(names):
            tables["t", name] = {"up": names[at - 1] if at % 2 else None, "tag": names[at // 2 * 2 + 2 * (at % 2) - 1]}
        self.assertEqual(self.parts(tables), parts_by_definition(tables))

    def test_by_definition(self):
        chance = random.Random(2)
        seen = set()
        for _ in range(400):
            tables = random_tables(chance)
            before = tables.copied()
            told = self.parts(tables)
            self.assertEqual(told, parts_by_definition(tables))
            self.assertEqual(tables, before)
            seen.add(tuple(len(part) for part in told))
            for name in tables.schema.names():
                every = [spots(part, name) for part in apart(tables)]
                if tables.schema.rule_of(name)[1] == "some":
                    self.held(holds(tables, name), [] in every)
                else:
                    self.assertEqual(spots(tables, name), sorted(sum(every, [])))
        self.assertGreater(len(seen), 10)

    def test_parts_are_new(self):
        tables = tasks({"a": ("open", "b"), "b": (), "c": ()})
        parts = apart(tables)
        parts[0].drop("task", "b")
        parts[1]["task", "c"] = task("done")
        self.assertEqual(tables, tasks({"a": ("open", "b"), "b": (), "c": ()}))


if __name__ == "__main__":
    unittest.main()
