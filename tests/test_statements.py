"""Points 40 and 41: statements and their tests."""

import copy
import unittest

from endchecks.schemas import Schema
from endchecks.statements import (
    are_far_tests, bodies, handles_in, is_statement, looked_at, meets_far)
from endchecks.tables import Tables
from tests.cases import RaisesCase
from tests.samples import ODD, deep, not_nested, shop, tasks, tree

RULES = [
    ("whole", "link", "item", "maker", [], []), ("nicks", "unique", "item", "nick"), ("any", "some", "maker", []),
    ("kinds", "check", "item", []),
]
SHOP = shop(RULES)
PUT_ITEM = {"kind": "big", "maker": ("new", "m"), "name": ("own",), "nick": ("word", "x")}
PUT_MAKER = {"best": None, "other": ("new", "m"), "name": None}
TAKE = ("take", "item", [])

# Inner tests over "item": those that are, and those that are wrong in one thing.
GOOD_TESTS = [
    ("is", "kind", ["big"]), ("is", "kind", ["small", "big", "small"]), ("none", "maker"), ("none", "nick"),
    ("new", "maker", "a"), ("new", "maker", "abcdefgh"), ("row", "a"), ("row", "abcdefgh"), ("at", "maker", []),
    ("at", "maker", [("none", "best"), ("none", "name")]), ("at", "maker", [not_nested(("none", "best"), 4)]),
]
BAD_TESTS = [
    ("is", "kind", ["open"]), ("is", "kind", []), ("is", "kind", ("big",)), ("is", "kind", [True]), ("is", "maker", ["big"]),
    ("is", "best", ["big"]), ("none", "kind"), ("none", "best"), ("none", ["maker"]), ("none",), ["none", "maker"],
    ("new", "maker"), ("new", "maker", "+a"), ("new", "maker", None), ("new", "maker", True), ("new", "maker", ["a"]),
    ("new", "name", "a"), ("new", "kind", "a"), ("new", "best", "a"), ("new", None, "a"), ("new", ["maker"], "a"),
    ("new", "maker", "A"), ("new", "maker", "abcdefghi"), ("new", "maker", "a", "b"), ["new", "maker", "a"], ("new", "a"),
    ("row",), ("row", "+a"), ("row", None), ("row", True), ("row", ["a"]), ("row", "a", "b"), ["row", "a"], ("row", "a\n"),
    ("at",), ("at", "maker"), ("at", "maker", ()), ("at", "maker", None), ("at", "maker", [], []), ["at", "maker", []],
    ("at", "name", []), ("at", "kind", []), ("at", "best", []), ("at", None, []), ("at", ["maker"], []),
    ("at", "maker", [("is", "kind", ["big"])]), ("at", "maker", [("none", "maker")]), ("at", "maker", [("row", "a")]),
    ("at", "maker", [("new", "best", "a")]), ("at", "maker", [("at", "best", [])]), ("at", "maker", [None]),
    ("at", "maker", [not_nested(("none", "best"), 5)]), ("at", "maker", ("none", "best")), ("not",), ("not", None),
    ("not", ("none", "maker"), ("none", "maker")), ("not", [("none", "maker")]), ["not", ("none", "maker")],
    ("or", "a"), (True, "a"), (["row"], "a"), (), ("x",) * 4,
]


def nested(statement, many):
    """A statement within so many others."""
    for _ in range(many):
        statement = ("trial", [statement])
    return statement


class FarTestsTest(RaisesCase):
    def check(self, thing, awaited, table="item"):
        self.held(are_far_tests(SHOP, table, thing), awaited)
        self.held(is_statement(SHOP, ("take", table, thing)), awaited)
        if table == "item":
            self.held(is_statement(SHOP, ("change", table, thing, {"nick": None})), awaited)

    def test_good_tests(self):
        self.check([], True)
        self.check(list(GOOD_TESTS), True)
        for test in GOOD_TESTS:
            self.check([test], True)

    def test_nots(self):
        for test in GOOD_TESTS:
            for many in range(8):
                self.check([not_nested(test, many)], many <= 4)
                self.check([("row", "a"), not_nested(test, many), ("row", "b")], many <= 4)

    def test_nots_in_an_at_aside(self):
        for outside in range(6):
            for inside in range(6):
                test = not_nested(("at", "maker", [not_nested(("none", "best"), inside)]), outside)
                self.check([test], outside <= 4 and inside <= 4)

    def test_wrong_at_any_depth(self):
        for test in [*BAD_TESTS, *ODD, deep(20)]:
            for many in range(5):
                self.check([not_nested(test, many)], False)
            self.check([("row", "a"), test], False)

    def test_no_lists(self):
        for thing in [*ODD, deep(28), (("row", "a"),), ("row", "a"), {"row": "a"}]:
            self.check(thing, isinstance(thing, list) and thing == [])

    def test_of_another_table(self):
        self.check([("at", "best", [("is", "kind", ["big"])]), ("new", "other", "a"), ("none", "name")], True, "maker")
        self.check([("at", "other", [("is", "kind", ["big"])])], False, "maker")
        self.check([("row", "a")], True, "plain")
        self.check([("none", "name")], False, "plain")

    def test_meets_far(self):
        tables = Tables(SHOP)
        tables["maker", "m"] = {"best": "i", "other": None, "name": "x"}
        tables["item", "+i"] = {"kind": "big", "maker": "m", "name": None, "nick": None}
        tables["item", "i"] = {"kind": "small", "maker": "+m", "name": "x", "nick": None}
        tables["item", "j"] = {"kind": "small", "maker": "i", "name": None, "nick": "z"}
        wanted = [
            ([], "+i", True), ([("is", "kind", ["big"])], "+i", True), ([("is", "kind", ["big"])], "i", False),
            ([("row", "i")], "+i", True), ([("row", "i")], "i", False), ([("row", "j")], "+i", False),
            ([("new", "maker", "m")], "i", True), ([("new", "maker", "m")], "+i", False),
            ([("new", "maker", "n")], "i", False), ([("at", "maker", [])], "+i", True),
            ([("at", "maker", [])], "i", False), ([("at", "maker", [])], "j", False),
            ([("not", ("at", "maker", []))], "j", True),
            ([("at", "maker", [("none", "other"), ("not", ("none", "best"))])], "+i", True),
            ([("at", "maker", [("none", "name")])], "+i", False),
            ([("at", "maker", [("not", ("none", "name"))])], "i", False),
            ([("at", "best", [("is", "kind", ["small"])])], "m", True),
            ([("at", "best", [("is", "kind", ["big"])])], "m", False), ([("at", "other", [])], "m", False),
            ([("none", "nick"), ("at", "maker", [])], "+i", True), ([("none", "nick"), ("at", "maker", [])], "i", False),
            ([("at", "maker", []), ("not", ("none", "nick"))], "+i", False),
        ]
        before = tables.copied()
        for tests, ident, awaited in wanted:
            self.held(meets_far(tables, ident, tests), awaited)
            for many in range(5):
                if len(tests) == 1:
                    self.held(meets_far(tables, ident, [not_nested(tests[0], many)]), awaited == (many % 2 == 0))
        self.assertEqual(tables, before)

    def test_at_a_row_that_links_to_itself(self):
        tables = tasks({"a": ("open", "a"), "b": ("done", "b")})
        self.held(meets_far(tables, "a", [("at", "boss", [("is", "state", ["open"])])]), True)
        self.held(meets_far(tables, "b", [("at", "boss", [("is", "state", ["open"])])]), False)


GOOD = [
    ("put", "a", "item", PUT_ITEM), ("put", "abcdefgh", "maker", PUT_MAKER), ("put", "a", "plain", {}),
    ("put", "a", "item", {"kind": "small", "maker": None, "name": None, "nick": None}),
    ("put", "m", "maker", {"best": ("new", "x"), "other": ("new", "m"), "name": ("word", "abcdefgh")}),
    ("change", "item", [], {"kind": "big"}), ("change", "item", [("row", "a")], {"maker": None, "nick": None}),
    ("change", "item", [], {"maker": ("new", "z"), "name": ("field", "nick"), "nick": ("field", "name")}),
    ("change", "item", [], {"maker": ("field", "maker"), "name": ("field", "name")}),
    ("change", "maker", [], {"best": ("field", "best"), "other": ("field", "other")}),
    ("take", "item", []), ("take", "plain", []), ("take", "maker", [("at", "best", [])]),
    ("switch", ["whole"], "each"), ("switch", ["nicks", "any"], "now"), ("switch", ["any", "nicks", "whole"], "late"),
    ("trial", []), ("trial", [TAKE, TAKE]), ("try", [], [], []), ("try", [TAKE], ["whole", "any", "kinds"], [TAKE]),
    ("try", [("trial", [TAKE])], ["kinds"], [("try", [], [], [("trial", [])])]),
]
BAD = [
    [*GOOD[0]], ("put",), ("put", "a"), ("put", "a", "item"), ("put", "a", "item", PUT_ITEM, []), ("Put", "a", "plain", {}),
    ("put", "+a", "plain", {}), ("put", None, "plain", {}), ("put", True, "plain", {}), ("put", ["a"], "plain", {}),
    ("put", "abcdefghi", "plain", {}), ("put", "a", "other", {}), ("put", "a", None, {}), ("put", "a", ["plain"], {}),
    ("put", "a", "plain", []), ("put", "a", "plain", None), ("put", "a", "plain", {"a": None}), ("put", "a", "maker", {}),
    ("put", "a", "item", PUT_MAKER), ("put", "a", "maker", {**PUT_MAKER, "more": None}),
    ("put", "a", "maker", {"best": None, "other": None, True: None}),
    ("change",), ("change", "item", []), ("change", "item", [], {}), ("change", "item", [], []),
    ("change", "item", [], None), ("change", "item", (), {"nick": None}), ("change", "item", None, {"nick": None}),
    ("change", "item", [None], {"nick": None}), ("change", "other", [], {"nick": None}),
    ("change", "plain", [], {"nick": None}), ("change", "plain", [], {}), ("change", ["item"], [], {"nick": None}),
    ("change", "item", [], {"best": None}), ("change", "item", [], {True: None}), ("change", "item", [], {("nick",): None}),
    ("change", "item", [], {"nick": None, "best": None}), ("change", "item", [], {"nick": None}, []),
    ("change", "item", [("none", "kind")], {"nick": None}), ("change", "item", {"nick": None}, []),
    ("take",), ("take", "item"), ("take", "other", []), ("take", None, []), ("take", ["item"], []), ("take", "item", ()),
    ("take", "item", [], []), ("take", "item", [], {"nick": None}), ("take", "item", None), ["take", "item", []],
    ("take", "plain", [("none", "nick")]), (["take"], "item", []), (True, "item", []), ("take", "item", [[]]),
    ("switch",), ("switch", ["whole"]), ("switch", [], "now"), ("switch", ("whole",), "now"), ("switch", "whole", "now"),
    ("switch", ["whole", "whole"], "now"), ("switch", ["other"], "now"), ("switch", ["whole", "other"], "now"),
    ("switch", [["whole"]], "now"), ("switch", [None], "now"), ("switch", [True], "now"), ("switch", ["whole"], "Now"),
    ("switch", ["whole"], None), ("switch", ["whole"], True), ("switch", ["whole"], ["now"]), ("switch", None, "now"),
    ("switch", ["whole"], "now", []), ["switch", ["whole"], "now"], ("switch", {"whole": 1}, "now"),
    ("trial",), ("trial", ()), ("trial", None), ("trial", {}), ("trial", TAKE), ("trial", [TAKE], [TAKE]), ["trial", []],
    ("trial", "ab"), ("trial", [], ["whole"], []), ("try",), ("try", []), ("try", [], []), ("try", [], [], [], []),
    ("try", (), [], []), ("try", [], (), []), ("try", [], [], ()), ("try", None, [], []), ("try", [], None, []),
    ("try", [], [], None), ["try", [], [], []], ("try", [], ["nicks"], []), ("try", [], ["whole", "nicks"], []),
    ("try", [], ["other"], []), ("try", [], ["whole", "whole"], []), ("try", [], [True], []), ("try", [], [["whole"]], []),
    ("try", [], "whole", []), ("try", [], [None], []), ("try", [], {"whole": 1}, []), (None, [], [], []), ((), [], [], []),
]
BAD_PUT_VALUES = {
    "kind": ["open", None, True, ["big"], ("big",), ("is", "big"), ("word", "big"), ("field", "kind"), ""],
    "maker": ["m", "+m", True, ("new",), ("new", "+m"), ("new", None), ("new", ["m"]), ("new", "m", "m"), ["new", "m"],
              ("field", "maker"), ("own",), ("word", "m"), ("start", "maker"), ("new", "abcdefghi"), (), ("new", True)],
    "name": ["x", "+x.y", False, ("word",), ("word", "+x.y"), ("word", None), ("word", ["x"]), ("word", "x", "y"),
             ["word", "x"], ["own"], ("own", "x"), ("own", None), (), ("new", "m"), ("field", "nick"), "own",
             ("word", "abcdefghi"), (("own",),), ("word", True)],
}
BAD_SET_VALUES = {
    "kind": ["open", None, True, ["big"], ("field", "kind"), ("word", "big")],
    "maker": ["m", "+m", True, ("new",), ("new", "+m"), ["new", "m"], ("field",), ("field", "other"), ("field", "name"),
              ("field", "kind"), ("field", None), ("field", ["maker"]), ("field", "maker", "maker"), ["field", "maker"],
              ("own",), ("word", "m"), ("new", None), ("new", "m", "m"), (), ("field", True)],
    "name": ["x", "+x.y", False, ("word", "x"), ("own",), ("new", "m"), ("field",), ("field", "maker"), ("field", "kind"),
             ("field", "other"), ("field", None), ("field", ["nick"]), ["field", "nick"], ("field", "nick", "nick"), (),
             ("field", True)],
}


class StatementsTest(RaisesCase):
    def check(self, thing, awaited):
        before = repr(thing)
        for many in range(6):
            self.held(is_statement(SHOP, nested(thing, many)), awaited)
            self.held(is_statement(SHOP, ("try", [TAKE], ["any"], [nested(thing, many), TAKE])), awaited)
        self.assertEqual(repr(thing), before)

    def test_statements(self):
        for thing in GOOD:
            self.check(thing, True)

    def test_no_statements(self):
        for thing in [*BAD, *ODD, deep(15)]:
            self.check(thing, False)

    def test_bodies_hold_statements_alone(self):
        for thing in [*BAD, *ODD]:
            self.held(is_statement(SHOP, ("trial", [TAKE, thing])), False)
            self.held(is_statement(SHOP, ("try", [thing], [], [])), False)
            self.held(is_statement(SHOP, ("try", [], [], [TAKE, thing])), False)

    def test_values_of_puts(self):
        for field, values in BAD_PUT_VALUES.items():
            for value in [*values, *ODD[1:]]:
                self.held(is_statement(SHOP, ("put", "a", "item", {**PUT_ITEM, field: value})), False)
                less = {name: PUT_ITEM[name] for name in PUT_ITEM if name != field}
                self.held(is_statement(SHOP, ("put", "a", "item", less)), False)

    def test_values_of_sets(self):
        for field, values in BAD_SET_VALUES.items():
            for value in [*values, *ODD[1:]]:
                self.held(is_statement(SHOP, ("change", "item", [], {field: value})), False)
                self.held(is_statement(SHOP, ("change", "item", [], {"nick": None, field: value})), False)

    def test_fields_of_links_that_lead_elsewhere(self):
        for sets, awaited in [({"best": ("field", "other")}, False), ({"other": ("field", "best")}, False),
                              ({"other": ("field", "other")}, True)]:
            self.held(is_statement(SHOP, ("change", "maker", [], sets)), awaited)
        fields = {"a": ("link", "t"), "b": ("link", "t"), "c": ("tag",), "d": ("mark", ["x"]), "e": ("mark", ["x"])}
        schema = Schema({"t": fields})
        for sets, awaited in [({"a": ("field", "b"), "b": ("field", "a")}, True), ({"a": ("field", "c")}, False),
                              ({"d": ("field", "e")}, False), ({"c": ("field", "a")}, False)]:
            self.held(is_statement(schema, ("change", "t", [], sets)), awaited)

    def test_switches_without_rules(self):
        self.held(is_statement(tree(()), ("switch", ["whole"], "now")), False)
        self.held(is_statement(tree(()), ("try", [], [], [])), True)


class PartsTest(RaisesCase):
    def test_bodies(self):
        self.assertEqual(bodies(("trial", [TAKE])), [[TAKE]])
        self.assertEqual(bodies(("trial", [])), [[]])
        self.assertEqual(bodies(("try", [TAKE], ["any"], [])), [[TAKE], []])
        for statement in GOOD[:16]:
            self.assertEqual(bodies(statement), [])

    def test_bodies_are_new(self):
        change = ("change", "item", [("is", "kind", ["big"])], {"nick": None, "kind": "big"})
        statement = ("try", [change, ("trial", [change])], [], [])
        before = copy.deepcopy(statement)
        told = bodies(statement)
        self.assertEqual(list(told[0][0][3]), ["kind", "nick"])
        told[0][1][1][0][3].clear()
        told[0][0][2][0][2].append("small")
        told[0][0][3].clear()
        told[0].clear()
        told[1].append(TAKE)
        self.assertEqual(statement, before)

    def test_handles_in(self):
        change = ("change", "item", [("new", "maker", "c"), not_nested(("row", "d"), 4), ("not", ("new", "maker", "e"))],
                  {"maker": ("new", "b"), "name": ("field", "nick")})
        self.assertEqual(handles_in(change), ["b", "c", "d", "e"])
        self.assertEqual(handles_in(("put", "z", "item", PUT_ITEM)), ["m", "z"])
        self.assertEqual(handles_in(("put", "m", "maker", PUT_MAKER)), ["m"])
        self.assertEqual(handles_in(("take", "item", [("row", "a"), ("row", "a"), ("at", "maker", [])])), ["a"])
        self.assertEqual(handles_in(("switch", ["any"], "now")), [])
        self.assertEqual(handles_in(("put", "z", "item", {**PUT_ITEM, "maker": None, "name": ("word", "new")})), ["z"])
        inner = ("try", [("put", "y", "plain", {})], ["any"], [("trial", [("take", "item", [("row", "x")])])])
        self.assertEqual(handles_in(inner), ["x", "y"])
        self.assertEqual(handles_in(("trial", [inner, change, inner])), ["b", "c", "d", "e", "x", "y"])

    def test_looked_at(self):
        at_best, at_other = ("at", "best", []), not_nested(("at", "other", []), 4)
        self.assertEqual(looked_at(SHOP, ("take", "maker", [at_other, ("none", "name"), at_best, at_best])),
                         ["item", "maker"])
        self.assertEqual(looked_at(SHOP, ("change", "maker", [("not", at_best)], {"name": None})), ["item"])
        self.assertEqual(looked_at(SHOP, ("change", "maker", [at_other], {"name": None})), ["maker"])
        self.assertEqual(looked_at(SHOP, ("take", "item", [("new", "maker", "a"), ("row", "a")])), [])
        for statement in [("put", "a", "item", PUT_ITEM), ("switch", ["any"], "now"),
                          ("trial", [("take", "maker", [at_best])]), ("try", [("take", "maker", [at_best])], [], [])]:
            self.assertEqual(looked_at(SHOP, statement), [])


if __name__ == "__main__":
    unittest.main()
