"""Point 60: kinds of starting rows."""

import copy
import itertools
import random
import unittest

from endchecks.errors import NoRow, TooMany
from endchecks.rowkinds import how_many, is_kind, kind_meets, kind_of, row_kinds
from endchecks.schemas import Schema
from endchecks.tables import Tables
from tests.cases import RaisesCase
from tests.drawn import draw_schema, draw_tables, draw_tests
from tests.samples import ODD, Thing, deep, not_nested, shop, task, tasks, tree
from tests.test_spots import met

SHOP = shop()
LOOKS = [[], [("item", "maker")], [("maker", "item")]]
WIDE = {"m": ("mark", ["a", "b", "c", "d"]), "n": ("mark", ["a", "b", "c", "d"]), "t": ("tag",), "u": ("tag",)}
VAST = Schema({"a": {**WIDE, "x": ("link", "b"), "y": ("link", "b")}, "b": {**WIDE, "x": ("link", "b"), "y": ("link", "c")},
               "c": {**WIDE, "x": ("link", "c"), "y": ("link", "a")}})


def kinds_by_definition(schema, looks):
    """All kinds, said in another way than the package does: of all rows with links of each sort."""
    found = []
    for table in schema.tables():
        choices = [schema.words(table, mark) for mark in schema.marks(table)]
        for link in schema.links(table):
            leads = schema.leads_to(table, link)
            sorts = [("none",), ("gone",)] + [("self",)] * (leads == table)
            if (table, leads) in looks:
                sorts += [("at", kind) for kind in kinds_by_definition(schema, []) if kind[0] == leads]
            else:
                sorts.append(("other",))
            choices.append(sorts)
        choices += [[False, True] for _ in schema.tags(table)]
        marks, links = len(schema.marks(table)), len(schema.links(table))
        for row in itertools.product(*choices):
            found.append((table, row[:marks], row[marks:marks + links], row[marks + links:]))
    return sorted(found)


class KindsTest(RaisesCase):
    def check(self, schema, looks):
        given = copy.deepcopy(looks)
        awaited = kinds_by_definition(schema, looks)
        self.assertEqual(row_kinds(schema, looks, most=400), awaited)
        self.assertEqual([how_many(schema, looks), looks], [len(awaited), given])
        for kind in awaited:
            self.held(is_kind(schema, looks, kind), True)
            self.assertTrue(all(isinstance(truth, bool) for truth in kind[3]))

    def test_the_tree(self):
        self.check(tree(), [])
        kinds = row_kinds(tree(), [])
        self.assertEqual(kinds[:4], [
            ("task", ("done",), (("gone",),), (False,)), ("task", ("done",), (("gone",),), (True,)),
            ("task", ("done",), (("none",),), (False,)), ("task", ("done",), (("none",),), (True,))])
        kinds.append("x")
        self.assertEqual(len(row_kinds(tree(), [])), 16)

    def test_three_tables(self):
        for looks in LOOKS:
            if how_many(SHOP, looks) <= 400:
                self.check(SHOP, looks)
        self.assertEqual([how_many(SHOP, looks) for looks in LOOKS], [49, 2 * 4 * 26 + 25, 24 + 2 * 4 * 26 + 1])
        self.assertEqual(len([kind for kind in row_kinds(SHOP, LOOKS[0]) if kind[0] == "plain"]), 1)

    def test_small_ones(self):
        self.check(Schema({"a": {}}), [])
        self.check(Schema({"a": {"x": ("link", "a")}, "b": {"x": ("link", "a"), "y": ("link", "a")}}), [("b", "a")])
        self.check(Schema({"a": {"x": ("link", "b")}, "b": {"t": ("tag",)}, "c": {"y": ("link", "b")}}),
                   [("a", "b"), ("c", "b")])
        self.check(Schema({"a": {"x": ("link", "b"), "y": ("link", "c")}, "b": {"t": ("tag",)}, "c": {"t": ("tag",)}}),
                   [("a", "b"), ("a", "c")])

    def test_drawn_schemas(self):
        for seed in range(60):
            schema = draw_schema(random.Random(seed), 3, 4)
            for looks in [[], [(one, other) for one in schema.tables()[:1] for other in schema.tables()[1:]]]:
                if how_many(schema, looks) <= 400:
                    self.check(schema, looks)
                else:
                    self.refused(TooMany, "limit", 400, lambda: row_kinds(schema, looks, most=400))

    def test_most(self):
        self.assertEqual(len(row_kinds(tree(), [], most=16)), 16)
        for most in [15, 1]:
            self.refused(TooMany, "limit", most, lambda: row_kinds(tree(), [], most=most))
        fields = {"m": ("mark", ["a", "b", "c", "d", "e"][:4]), "x": ("link", "b"), "t": ("tag",)}
        schema = Schema({"a": fields, "b": {"n": ("mark", ["a", "b", "c"]), "x": ("link", "b"), "t": ("tag",)}})
        many = 4 * 3 * 2 + 3 * 4 * 2
        self.assertEqual(how_many(schema, []), many)
        looking = 4 * 2 * (2 + 24) + 24
        self.assertEqual(how_many(schema, [("a", "b")]), looking)
        self.refused(TooMany, "limit", 200, row_kinds, schema, [("a", "b")])
        self.refused(TooMany, "limit", looking - 1, lambda: row_kinds(schema, [("a", "b")], most=looking - 1))
        self.assertEqual(len(row_kinds(schema, [("a", "b")], most=looking)), looking)
        with self.assertRaises(TypeError):
            row_kinds(schema, [], 200)

    def test_two_hundred(self):
        fields = {"m": ("mark", ["a", "b", "c", "d"]), "n": ("mark", ["a", "b", "c", "d"]), "t": ("tag",), "x": ("link", "a")}
        two = {"m": ("mark", ["a", "b", "c", "d"]), "n": ("mark", ["a", "b", "c"]), "t": ("tag",), "x": ("link", "a")}
        self.assertEqual(how_many(Schema({"a": fields}), []), 128)
        self.assertEqual(len(row_kinds(Schema({"a": fields, "b": two}), [])), 128 + 72)
        self.refused(TooMany, "limit", 200, row_kinds, Schema({"a": fields, "b": two, "c": {}}), [])

    def test_great_numbers(self):
        own = 16 * 4 * 4 * 4
        self.assertEqual(how_many(VAST, []), 16 * 4 * 9 + 16 * 4 * 12 + 16 * 4 * 12)
        with_looks = 16 * 4 * (2 + 16 * 4 * 12) ** 2 + 16 * 4 * 12 + 16 * 4 * 12
        self.assertEqual(how_many(VAST, [("a", "b")]), with_looks)
        self.refused(TooMany, "limit", 400, lambda: row_kinds(VAST, [("a", "b")], most=400))
        self.assertGreater(with_looks, own ** 2)
        words = VAST.marks("b") and ("a", "a")
        far = ("b", words, (("self",), ("other",)), (True, False))
        self.held(is_kind(VAST, [("a", "b")], ("a", words, (("at", far), ("gone",)), (True, True))), True)
        self.held(is_kind(VAST, [("a", "b")], ("a", words, (("at", far), ("other",)), (True, True))), False)


class IsKindTest(RaisesCase):
    def test_any_value(self):
        for looks in LOOKS:
            for thing in [*ODD, deep(29), (), ("task",), [], ("plain", (), ()), ["plain", (), (), ()], {"plain": ()},
                          ("plain", [], (), ()), ("plain", (), [], ()), ("plain", (), (), []), ("plain", (), (), (), ()),
                          ("plain", ("a",), (), ()), ("plain", (), (("none",),), ()), ("plain", (), (), (True,)),
                          (["plain"], (), (), ()), (None, (), (), ()), ("plane", (), (), ()), ("plain", None, (), ()),
                          ("plain", (), None, ()), ("plain", (), (), None), ("plain", "", (), ()), ("plain", (), "", ()),
                          ("plain", (), (), ""), (Thing(), (), (), ())]:
                self.held(is_kind(SHOP, looks, thing), False)
            self.held(is_kind(SHOP, looks, ("plain", (), (), ())), True)

    def test_wrong_in_one_thing(self):
        maker = ("maker", (), (("other",), ("self",)), (False,))
        item = ("item", ("big",), (("at", maker),), (True, False))
        looks = [("item", "maker")]
        self.held(is_kind(SHOP, looks, item), True)
        for word in [*ODD, "huge", "small" * 2, ("big",), ["big"]]:
            self.held(is_kind(SHOP, looks, ("item", (word,), *item[2:])), False)
        links = [*ODD, "none", ("other",), ("self",), ["none"], ("none", "x"), ("none", maker), ("at",), ("at", None),
                 ("at", maker, maker), ["at", maker], ("at", [maker]), ("to", maker), maker, ("gone", None),
                 ("at", ("plain", (), (), ())), ("at", ("item", ("big",), (("none",),), (True, True))), ("at", item)]
        for link in links:
            self.held(is_kind(SHOP, looks, (*item[:2], (link,), item[3])), False)
        for truth in [thing for thing in ODD if not isinstance(thing, bool)]:
            self.held(is_kind(SHOP, looks, (*item[:3], (truth, False))), False)
            self.held(is_kind(SHOP, looks, (*item[:3], (True, truth))), False)
            deep_kind = ("item", ("big",), (("at", (*maker[:3], (truth,))),), (True, False))
            self.held(is_kind(SHOP, looks, deep_kind), False)
        for link in [("at", maker), ("at", item), ("here",), "self", None, 1]:
            deep_kind = ("item", ("big",), (("at", ("maker", (), (link, ("self",)), (False,))),), (True, False))
            self.held(is_kind(SHOP, looks, deep_kind), False)
        self.held(is_kind(SHOP, looks, ("maker", (), (("self",), ("self",)), (False,))), False)

    def test_by_other_looks(self):
        maker = ("maker", (), (("other",), ("self",)), (False,))
        item = ("item", ("big",), (("at", maker),), (True, False))
        bare = ("item", ("big",), (("other",),), (True, False))
        for looks in LOOKS:
            self.held(is_kind(SHOP, looks, item), looks == LOOKS[1])
            self.held(is_kind(SHOP, looks, bare), looks != LOOKS[1])
            self.held(is_kind(SHOP, looks, maker), looks != LOOKS[2])

    def test_integers_are_no_truths(self):
        for one in [True, False, 1, 0]:
            for other in [True, False, 1, 0]:
                kind = ("item", ("big",), (("none",),), (one, other))
                self.held(is_kind(SHOP, [], kind), isinstance(one, bool) and isinstance(other, bool))


class KindOfTest(RaisesCase):
    def tables(self):
        tables = Tables(SHOP)
        tables["maker", "m"] = {"best": "i", "other": "m", "name": "x"}
        tables["maker", "n"] = {"best": "n", "other": "m", "name": None}
        tables["maker", "o"] = {"best": None, "other": "i", "name": "o"}
        tables["item", "i"] = {"kind": "big", "maker": "n", "name": "x", "nick": None}
        tables["item", "j"] = {"kind": "small", "maker": "j", "name": None, "nick": "y"}
        tables["item", "k"] = {"kind": "small", "maker": "p", "name": None, "nick": None}
        tables["item", "l"] = {"kind": "small", "maker": None, "name": None, "nick": None}
        tables["plain", "p"] = {}
        return tables

    def test_flat(self):
        wanted = {
            "m": ("maker", (), (("other",), ("self",)), (True,)), "n": ("maker", (), (("gone",), ("other",)), (False,)),
            "o": ("maker", (), (("none",), ("gone",)), (True,)), "i": ("item", ("big",), (("other",),), (True, False)),
            "j": ("item", ("small",), (("gone",),), (False, True)), "k": ("item", ("small",), (("gone",),), (False, False)),
            "l": ("item", ("small",), (("none",),), (False, False)), "p": ("plain", (), (), ())}
        tables = self.tables()
        for ident, kind in wanted.items():
            self.assertEqual(repr(kind_of(tables, [], ident)), repr(kind))
        self.assertEqual(tables, self.tables())

    def test_looks(self):
        tables = self.tables()
        n = ("maker", (), (("gone",), ("other",)), (False,))
        self.assertEqual(kind_of(tables, [("item", "maker")], "i"), ("item", ("big",), (("at", n),), (True, False)))
        self.assertEqual(kind_of(tables, [("item", "maker")], "j"), kind_of(tables, [], "j"))
        i = ("item", ("big",), (("other",),), (True, False))
        self.assertEqual(kind_of(tables, [("maker", "item")], "m"), ("maker", (), (("at", i), ("self",)), (True,)))
        self.assertEqual(kind_of(tables, [("maker", "item")], "n"), n)
        self.assertEqual(kind_of(tables, [("maker", "item")], "i"), i)

    def test_links_to_the_own_table(self):
        tables = tasks({"a": ("open", "a"), "b": ("done", "a", "x"), "c": ("open", "d"), "e": ()})
        links = [kind_of(tables, [], ident)[2] for ident in "abce"]
        self.assertEqual(links, [(("self",),), (("other",),), (("gone",),), (("none",),)])

    def test_no_row(self):
        tables = self.tables()
        for thing in [*ODD, "q", "x", "maker", "abcdefgh", "+m", ("maker", "m"), deep(29)]:
            for looks in LOOKS:
                self.refused(NoRow, "ident", thing, kind_of, tables, looks, thing)

    def test_each_kind_of_a_row_is_one(self):
        for seed in range(200):
            chance = random.Random(seed)
            schema = draw_schema(chance, 3, 4)
            tables = draw_tables(chance, schema, 7)
            for looks in [[], [(one, other) for one in schema.tables()[:1] for other in schema.tables()[1:]]]:
                for ident in tables.ids():
                    kind = kind_of(tables, looks, ident)
                    self.held(is_kind(schema, looks, kind), True)
                    if how_many(schema, looks) <= 400:
                        self.assertIn(kind, row_kinds(schema, looks, most=400))
                    tests = draw_tests(chance, schema.fields(kind[0]), 3)
                    self.held(kind_meets(schema, kind, tests), met(tables[kind[0], ident], tests))


class KindMeetsTest(RaisesCase):
    def test_nots(self):
        kind = ("item", ("big",), (("gone",),), (True, False))
        wanted = [(("is", "kind", ["big"]), True), (("is", "kind", ["small"]), False), (("is", "kind", ["small", "big"]), True),
                  (("none", "maker"), False), (("none", "name"), False), (("none", "nick"), True)]
        for test, awaited in wanted:
            for many in range(5):
                self.held(kind_meets(SHOP, kind, [not_nested(test, many)]), awaited == (many % 2 == 0))
        self.held(kind_meets(SHOP, kind, []), True)
        self.held(kind_meets(SHOP, kind, [("none", "nick"), ("none", "name")]), False)
        self.held(kind_meets(SHOP, kind, [("none", "nick"), ("not", ("none", "name"))]), True)

    def test_links_of_each_sort(self):
        for link in [("none",), ("self",), ("gone",), ("other",)]:
            kind = ("task", ("open",), (link,), (False,))
            self.held(kind_meets(tree(), kind, [("none", "boss")]), link == ("none",))
        plain = ("maker", (), (("none",), ("none",)), (False,))
        self.held(kind_meets(SHOP, ("item", ("big",), (("at", plain),), (True, True)), [("none", "maker")]), False)
        self.held(kind_meets(SHOP, ("plain", (), (), ()), []), True)

    def test_rows_of_a_kind(self):
        self.assertEqual(kind_of(tasks({"a": ()}), [], "a"), ("task", ("open",), (("none",),), (False,)))
        self.assertEqual(task(), {"state": "open", "boss": None, "code": None})


if __name__ == "__main__":
    unittest.main()
