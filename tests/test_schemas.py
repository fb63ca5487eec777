"""Points 2, 3, 4 and 23: schemas and their rules."""

import copy
import unittest

from endchecks.errors import BadRule, Full, Wrong
from endchecks.schemas import Schema
from tests.cases import RaisesCase
from tests.samples import FIELDS, ODD, ROW, RULES, deep, not_nested, shop, task, tree

OPEN = [("is", "state", ["open"])]


class MakingTest(RaisesCase):
    def test_wrong_tables(self):
        wrong = [
            {}, {"a": {}, "b": {}, "c": {}, "d": {}}, {"A": {}}, {1: {}}, {True: {}}, {None: {}}, {("a",): {}},
            {"abcdefghi": {}}, {"a\n": {}}, {"+a": {}}, {"a": None}, {"a": []}, {"a": {"b": ("link", "c")}},
            {"a": {"b": ("tag", "c")}}, {"a": {"b": ["tag"]}}, {"a": {"b": ("mark", ("x",))}},
            {"a": {}, "b": {"c": ("link", "d")}}, {"a": {}, "b": None}, [("a", {})], ("a",), ["a"],
            {"a": {x: ("tag",) for x in "xyz"}}, {"a": {"b": ("link", "b")}}, {"a": {"b": ("link", ["a"])}},
        ]
        for tables in [*wrong, *ODD, deep(29)]:
            for rules in [(), [], None, [None], [1] * 7, True]:
                self.refused(Wrong, "place", 0, Schema, tables, rules)
            self.refused(Wrong, "place", 0, Schema, tables)

    def test_wrong_rules(self):
        odd = [thing for thing in ODD if not isinstance(thing, (list, tuple))]
        for rules in [*odd, {"a": 1}, RULES * 3, [None] * 7, (None,) * 7, [[]] * 4000]:
            self.refused(Wrong, "place", 1, Schema, {"task": FIELDS}, rules)

    def test_rules_in_lists_and_tuples(self):
        self.assertEqual(tree(RULES).rules(), RULES)
        self.assertEqual(tree(tuple(RULES)).rules(), RULES)
        self.assertEqual(tree(RULES), tree(tuple(RULES)))
        self.assertEqual(Schema({"task": FIELDS}).rules(), [])
        self.assertEqual(Schema({"task": FIELDS}, []).rules(), [])

    def test_bad_rule_in_any_place(self):
        for bad in BAD_RULES + ODD + [deep(28)]:
            self.refused(BadRule, "at", 0, tree, [bad])
            self.refused(BadRule, "at", 1, tree, [RULES[0], bad, bad])
            self.refused(BadRule, "at", 3, tree, [*RULES, bad])
            self.refused(BadRule, "at", 5, tree, tuple(many_rules(5)) + (bad,))

    def test_a_name_of_an_earlier_one(self):
        self.refused(BadRule, "at", 1, tree, [RULES[0], RULES[0]])
        self.refused(BadRule, "at", 2, tree, [RULES[0], RULES[1], ("whole", "check", "task", []), None])
        self.refused(BadRule, "at", 1, tree, [RULES[0], None, RULES[0]])

    def test_rules_of_other_tables(self):
        schema = shop([
            ("a", "link", "item", "maker", [("is", "kind", ["big"])], [("none", "best")]),
            ("b", "link", "maker", "best", [("none", "name")], [("is", "kind", ["small", "small"])]),
            ("c", "check", "plain", []), ("d", "unique", "item", "nick"),
        ])
        self.assertEqual(schema.names(), ["a", "b", "c", "d"])
        for bad in [("a", "link", "item", "maker", [("none", "best")], []), ("a", "check", "other", []),
                    ("a", "link", "item", "maker", [], [("is", "kind", ["big"])]), ("a", "unique", "maker", "nick"),
                    ("a", "link", "plain", "maker", [], []), ("a", "unique", "plain", "name")]:
            self.refused(BadRule, "at", 0, shop, [bad])

    def test_nots_in_rules(self):
        for many in range(7):
            test = not_nested(("none", "boss"), many)
            rules = [("a", "check", "task", [test]), ("a", "some", "task", [test]),
                     ("a", "link", "task", "boss", [test], []), ("a", "link", "task", "boss", [], [test])]
            for rule in rules:
                if many <= 4:
                    self.assertEqual(tree([rule]).rules(), [rule])
                else:
                    self.refused(BadRule, "at", 0, tree, [rule])


BAD_RULES = [
    ["a", "check", "task", []], ("A", "check", "task", []), ("", "check", "task", []), (None, "check", "task", []),
    (True, "check", "task", []), (["a"], "check", "task", []), ("abcdefghi", "check", "task", []),
    ("a", "other", "task", []), ("a", None, "task", []), ("a", True, "task", []), ("a", ["check"], "task", []),
    ("a", "check", "other", []), ("a", "check", None, []), ("a", "check", ["task"], []), ("a", "check", "task"),
    ("a", "check", "task", ()), ("a", "check", "task", None), ("a", "check", "task", [], []),
    ("a", "check", "task", [], [], []), ("a", "check", "task", [("none", "state")]), ("a", "some", "task"),
    ("a", "check", "task", [("is", "state", [True])]), ("a", "check", "task", [["none", "boss"]]),
    ("a", "check", "task", [("row", "a")]), ("a", "check", "task", [("at", "boss", [])]),
    ("a", "some", "task", ()), ("a", "some", "task", "code"), ("a", "some", "other", []),
    ("a", "some", "task", [], []), ("a", "unique", "task", "state"), ("a", "unique", "task", "boss"),
    ("a", "unique", "task", "other"), ("a", "unique", "task", None), ("a", "unique", "task", ["code"]),
    ("a", "unique", "task"), ("a", "unique", "task", "code", []), ("a", "unique", "task", []),
    ("a", "link", "task", "boss", []), ("a", "link", "task", "boss"), ("a", "link", "task", "boss", [], [], []),
    ("a", "link", "task", "code", [], []), ("a", "link", "task", "state", [], []), ("a", "link", "task", None, [], []),
    ("a", "link", "task", ["boss"], [], []), ("a", "link", "other", "boss", [], []),
    ("a", "link", "task", "boss", (), []), ("a", "link", "task", "boss", [], ()),
    ("a", "link", "task", "boss", [("none", "x")], []), ("a", "link", "task", "boss", [], [("none", "x")]),
    ("a", "link", "task", "boss", None, []), ("a", "link", "task", "boss", [], None),
    ("a", "check", "task", "boss", [], []), ("a", None, "task", "boss", [], []),
    ("a", "unique", "task", "code", [], []), ("a",), ("a", "check"), (), "rule",
]


def many_rules(many):
    return [(name, "check", "task", []) for name in "abcdef"[:many]]


class AnswersTest(RaisesCase):
    def test_tables_and_fields(self):
        schema = shop()
        self.assertEqual(schema.tables(), ["item", "maker", "plain"])
        self.assertEqual([schema.marks("item"), schema.links("item"), schema.tags("item")],
                         [["kind"], ["maker"], ["name", "nick"]])
        self.assertEqual([schema.marks("maker"), schema.links("maker"), schema.tags("maker")],
                         [[], ["best", "other"], ["name"]])
        self.assertEqual([schema.marks("plain"), schema.links("plain"), schema.tags("plain")], [[], [], []])
        self.assertEqual([schema.leads_to("item", "maker"), schema.leads_to("maker", "best")], ["maker", "item"])
        self.assertEqual(schema.fields("plain"), {})

    def test_all_is_ascending(self):
        fields = {"z": ("mark", ["c", "a", "b"]), "y": ("tag",), "b": ("mark", ["x"]), "a": ("tag",)}
        schema = Schema({"two": {}, "one": fields})
        self.assertEqual(schema.tables(), ["one", "two"])
        self.assertEqual(list(schema.fields("one").items()), [
            ("a", ("tag",)), ("b", ("mark", ["x"])), ("y", ("tag",)), ("z", ("mark", ["a", "b", "c"]))])
        self.assertEqual([schema.marks("one"), schema.tags("one")], [["b", "z"], ["a", "y"]])
        self.assertEqual(schema.words("one", "z"), ["a", "b", "c"])

    def test_rules(self):
        schema = tree()
        self.assertEqual([schema.rules(), schema.names()], [RULES, ["whole", "some", "code"]])
        for at, rule in enumerate(RULES):
            self.assertEqual(schema.rule_of(rule[0]), rule)
            self.assertEqual(schema.rank_of(rule[0]), at)

    def test_tests_are_told_as_passed(self):
        rule = ("a", "check", "task", [("is", "state", ["open", "done", "open"]), ("none", "code")])
        self.assertEqual(tree([rule]).rules(), [rule])

    def test_rows_of(self):
        fields = {"a": ("mark", ["x", "y", "z"]), "b": ("mark", ["x", "y", "z", "w"]), "c": ("link", "s")}
        schema = Schema({"t": fields, "s": {}, "u": {"a": ("mark", ["x"])}})
        self.assertEqual([schema.rows_of("t"), schema.rows_of("s"), schema.rows_of("u")], [12, 1, 1])

    def test_rows(self):
        schema = tree()
        for row in [ROW, task("done", "a", "b"), task("done", "+a", "+a.b"), task(boss="abcdefgh", code="zzzzzzzz")]:
            self.assertIs(schema.is_row("task", row), True)
        self.assertIs(schema.is_row("task", {"code": None, "state": "done", "boss": None}), True)
        self.assertIs(shop().is_row("plain", {}), True)

    def test_no_rows(self):
        schema = tree()
        wrong = [
            {}, {"state": "open", "boss": None}, {**ROW, "more": None}, {**ROW, True: None}, list(ROW),
            list(ROW.items()), {"state": "open", "boss": None, "Code": None}, {"state": "open", "boss": None, 1: None},
            task("shut"), task(None), task(True), task(["open"]), task(("mark", "open")),
            task(boss=""), task(boss="+a.b"), task(boss=True), task(boss="A"), task(boss=["a"]), task(boss=("new", "a")),
            task(code=""), task(code="+a"), task(code="+a.b.c"), task(code=False), task(code=("own",)), task(code=0),
        ]
        for row in [*wrong, *ODD, deep(29)]:
            self.assertIs(schema.is_row("task", row), False, row)
        for row in [{"a": None}, [], (), None, ROW]:
            self.assertIs(shop().is_row("plain", row), False, row)

    def test_without(self):
        schema = tree()
        self.assertEqual(schema.without("some").rules(), [RULES[0], RULES[2]])
        self.assertEqual(schema.without("whole").without("code").rules(), [RULES[1]])
        self.assertEqual(schema.rules(), RULES)
        self.assertEqual(schema.without("code"), tree(RULES[:2]))

    def test_more(self):
        rule = ("more", "check", "task", OPEN)
        schema = tree()
        self.assertEqual(schema.more(rule).rules(), [*RULES, rule])
        self.assertEqual(schema.rules(), RULES)
        self.assertEqual(schema.more(rule), tree([*RULES, rule]))

    def test_more_than_there_may_be(self):
        for bad in BAD_RULES + ODD + [("whole", "check", "task", []), deep(29), many_rules(1)[0]]:
            self.refused(Full, "limit", 6, tree(many_rules(6)).more, bad)
        for bad in BAD_RULES + ODD + [("whole", "check", "task", []), deep(29)]:
            self.refused(BadRule, "at", 0, tree().more, bad)
        self.assertEqual(len(tree(many_rules(5)).more(("z", "unique", "task", "code")).rules()), 6)


class EqualityTest(unittest.TestCase):
    def test_equal(self):
        one = tree()
        self.assertIs(one == tree(), True)
        self.assertIs(one != tree(), False)
        turned = {"code": ("tag",), "boss": ("link", "task"), "state": ("mark", ["done", "open"])}
        self.assertIs(one == Schema({"task": turned}, tuple(RULES)), True)
        self.assertIs(Schema({"a": {}, "b": {}}) == Schema({"b": {}, "a": {}}), True)

    def test_not_equal(self):
        one = tree()
        for rules in [RULES[:2], RULES[::-1], [RULES[1], RULES[0], RULES[2]], (), [("all", *RULES[0][1:]), *RULES[1:]]]:
            self.assertIs(one == tree(rules), False)
        words = ("mark", ["open", "done", "shut"])
        for fields in [{**FIELDS, "state": words}, {**FIELDS, "more": ("tag",)}, {**FIELDS, "next": ("link", "task")}]:
            self.assertIs(one == Schema({"task": fields}, RULES), False)
        self.assertIs(one == Schema({"task": FIELDS, "more": {}}, RULES), False)
        self.assertIs(Schema({"a": {"x": ("link", "a")}, "b": {}}) == Schema({"a": {"x": ("link", "b")}, "b": {}}), False)
        self.assertIs(Schema({"a": {}}) == Schema({"b": {}}), False)

    def test_the_order_of_words_in_tests_counts(self):
        one, other = [tree([("a", "check", "task", [("is", "state", words)])])
                      for words in [["open", "done"], ["done", "open"]]]
        self.assertIs(one == other, False)

    def test_nothing_else_is_equal(self):
        for thing in [*ODD, RULES, {"task": FIELDS}]:
            self.assertIs(tree() == thing, False)
            self.assertIs(thing == tree(), False)


class CopiesTest(unittest.TestCase):
    def answers(self, schema):
        return [schema.tables(), schema.fields("task"), schema.marks("task"), schema.links("task"), schema.tags("task"),
                schema.words("task", "state"), schema.rules(), schema.names(), schema.rule_of("whole"),
                schema.rule_of("far"), schema.is_row("task", ROW)]

    def test_what_was_passed_is_changed_behind(self):
        words, inner, tests, there = ["open", "done"], ["open"], [("none", "code")], []
        fields = {"state": ("mark", words), "boss": ("link", "task"), "code": ("tag",)}
        tables = {"task": fields}
        rules = [("whole", "link", "task", "boss", tests, there), ("far", "check", "task", [("is", "state", inner)])]
        schema = Schema(tables, rules)
        before = copy.deepcopy(self.answers(schema))
        words.append("shut")
        inner.append("done")
        tests.append(("none", "boss"))
        there.append(("none", "boss"))
        fields["more"] = ("tag",)
        tables["other"] = {}
        rules.append(("late", "check", "task", []))
        self.assertEqual(self.answers(schema), before)

    def test_what_was_told_is_changed_behind(self):
        far = ("far", "check", "task", [("not", ("is", "state", ["done"]))])
        schema = tree([*RULES, far])
        before = copy.deepcopy(self.answers(schema))
        schema.tables().append("x")
        schema.fields("task")["state"][1].append("x")
        schema.fields("task").clear()
        for told in [schema.marks("task"), schema.links("task"), schema.tags("task"), schema.words("task", "state")]:
            told.append("x")
        schema.names().clear()
        schema.rules()[0][5].append("x")
        schema.rules()[0][5][0][2].append("x")
        schema.rules()[3][3][0][1][2].append("done")
        schema.rules().clear()
        schema.rule_of("whole")[5].clear()
        schema.rule_of("far")[3][0][1][2].clear()
        self.assertEqual(self.answers(schema), before)

    def test_more_and_without_share_nothing(self):
        tests = [("is", "state", ["open"])]
        schema = tree().more(("far", "check", "task", tests))
        tests[0][2].append("done")
        tests.append(("none", "boss"))
        self.assertEqual(schema.rule_of("far")[3], OPEN)
        less = schema.without("some")
        less.rule_of("far")[3].clear()
        self.assertEqual([schema.rule_of("far")[3], less.rule_of("far")[3]], [OPEN, OPEN])

    def test_nothing_passed_in_is_changed(self):
        tables, rules, row = {"task": copy.deepcopy(FIELDS)}, copy.deepcopy(RULES), dict(ROW)
        schema = Schema(tables, rules)
        schema.is_row("task", row)
        schema.fields("task")["code"] = None
        self.assertEqual([tables, rules, row], [{"task": FIELDS}, RULES, ROW])
        self.assertEqual(list(tables["task"]), list(FIELDS))
        self.assertEqual(tables["task"]["state"][1], ["open", "done"])


if __name__ == "__main__":
    unittest.main()
