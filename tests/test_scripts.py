"""Points 2, 3, 4 and 43: scripts."""

import copy
import itertools
import random
import unittest

from endchecks.errors import BadStatement, Full, NoPlace, Twice, Unput, Wrong
from endchecks.schemas import Schema
from endchecks.scripts import Script
from endchecks.statements import is_statement
from tests.cases import RaisesCase
from tests.samples import ODD, deep, not_nested, shop, tree
from tests.test_statements import BAD, GOOD, nested
from tests.test_statements import RULES as SHOP_RULES

SHOP = shop(SHOP_RULES)
TREE = tree()
END = ("change", "task", [("none", "boss")], {"state": "done", "code": None})
CUT = ("change", "task", [("not", ("none", "boss"))], {"boss": None})
TOP = ("put", "top", "task", {"state": "open", "boss": ("new", "top"), "code": ("word", "x")})
SWITCH = ("switch", ["whole"], "now")
TAKE = ("take", "plain", [])
PLAN = [("try", [END, SWITCH], ["whole"], [CUT]), TOP]
FLAT = Schema({"a": {"x": ("link", "b"), "y": ("link", "a")}, "b": {"x": ("link", "c"), "y": ("link", "a")}, "c": {}})


def put(handle):
    """A put that needs no other one."""
    return ("put", handle, "plain", {})


def put_task(handle, boss=None):
    return ("put", handle, "task", {"state": "open", "boss": boss and ("new", boss), "code": None})


def named(handle):
    return ("take", "plain", [("row", handle)])


def look(table, link, many=0):
    return ("take", table, [not_nested(("at", link, []), many)])


class MakingTest(RaisesCase):
    def bad(self, address, body, schema=SHOP):
        self.refused(BadStatement, "address", address, Script, schema, body)

    def test_wrong_arguments(self):
        for thing in [*ODD, deep(29), {"task": {}}, Schema]:
            for body in [[], [TAKE], None, [None]]:
                self.refused(Wrong, "place", 0, Script, thing, body)
        for thing in [*ODD, (TAKE,), {0: TAKE}, TAKE, Script(SHOP, [])]:
            if not isinstance(thing, list):
                self.refused(Wrong, "place", 1, Script, SHOP, thing)

    def test_items_of_any_kind(self):
        for thing in [*BAD, *ODD, deep(20)]:
            self.bad((0,), [thing])
            self.bad((1,), [TAKE, thing, None])
            self.bad((0, 0, 0), [("trial", [thing])])
            self.bad((1, 1, 1), [TAKE, ("try", [TAKE], ["any"], [TAKE, thing]), thing])
            self.bad((0, 0, 0, 0, 0, 0, 0), [nested(thing, 3)])
        self.bad((0,), [None] * 4990)

    def test_the_least_address(self):
        self.bad((0, 0, 1), [("try", [TAKE, None], [], [None]), None])
        self.bad((0, 1, 0), [("try", [TAKE], [], [None]), None])
        self.bad((0, 0, 0, 0, 0), [("trial", [("trial", [1]), 2]), 3])
        self.bad((0, 0, 0, 0, 0, 0, 0, 0, 0), [nested(TAKE, 4), None])
        self.bad((0, 0, 0), [("trial", [None, nested(TAKE, 3)])])
        self.bad((0, 0, 0, 0, 0, 0, 1), [("trial", [("trial", [("trial", [TAKE, None]), nested(TAKE, 3)])])])

    def test_blocks_are_looked_at_by_themselves_first(self):
        self.bad((0,), [("try", [None], ["nicks"], [])])
        self.bad((0,), [("try", [None], [], None)])
        self.bad((0, 0, 0), [("try", [None], ["whole"], [])])

    def test_depth(self):
        for many in range(8):
            for wrap in [lambda thing: ("trial", [thing]), lambda thing: ("try", [], [], [thing])]:
                statement = TAKE
                for _ in range(many):
                    statement = wrap(statement)
                number = wrap(TAKE)[0] == "try"
                self.held(is_statement(SHOP, statement), True)
                if many <= 3:
                    self.assertEqual(len(Script(SHOP, [statement])), many + 1)
                else:
                    self.bad((0, int(number), 0, int(number), 0, int(number), 0, int(number), 0), [statement])

    def test_too_many_statements(self):
        self.assertEqual(len(Script(SHOP, [TAKE] * 12)), 12)
        self.assertEqual(len(Script(SHOP, [])), 0)
        for body in [[TAKE] * 13, [("trial", [TAKE] * 12)], [("try", [TAKE] * 5, [], [TAKE] * 5), TAKE, TAKE],
                     [put("a")] * 13, [named("a")] * 13]:
            self.refused(Full, "limit", 12, Script, SHOP, body)
        self.bad((12,), [TAKE] * 12 + [None])

    def test_too_many_puts(self):
        puts = [put(handle) for handle in "abcde"]
        self.assertEqual(len(Script(SHOP, puts[:4]).handles()), 4)
        for body in [puts, [put("a")] * 5, [("trial", puts[:2]), ("try", puts[2:3], [], puts[3:])], [*puts, named("z")]]:
            self.refused(Full, "limit", 4, Script, SHOP, body)

    def test_twice(self):
        for body in [[put("a"), put("a")], [put("b"), put("a"), put("b"), put("a")], [put("a"), ("trial", [put("a")])],
                     [("try", [put("a")], [], [put("a")])], [put("a"), put("a"), named("z")],
                     [put("a"), put("a"), look("maker", "other")]]:
            self.refused(Twice, "handle", "a", Script, SHOP, body)

    def test_unput(self):
        for body in [[named("a")], [named("b"), named("a")], [("trial", [named("a")]), put("b")],
                     [("put", "b", "maker", {"best": ("new", "a"), "other": ("new", "c"), "name": None})],
                     [("change", "item", [], {"maker": ("new", "a")})],
                     [("take", "item", [not_nested(("new", "maker", "a"), 4)])],
                     [look("maker", "other"), named("a")], [("take", "maker", [("row", "z")]), put("z"), named("a")]]:
            self.refused(Unput, "handle", "a", Script, SHOP, body)
        self.assertEqual(len(Script(SHOP, [named("a"), ("trial", [put("a")])])), 3)

    def test_new_rows_of_other_tables(self):
        maker = ("put", "m", "maker", {"best": None, "other": ("new", "m"), "name": None})
        item = ("put", "i", "item", {"kind": "big", "maker": ("new", "m"), "name": None, "nick": None})
        self.assertEqual(len(Script(SHOP, [maker, item])), 2)
        body = [maker, item, ("change", "item", [("row", "i"), ("not", ("new", "maker", "m"))], {"maker": ("new", "m")}),
                ("take", "maker", [("row", "m"), ("new", "best", "i")])]
        self.assertEqual(len(Script(SHOP, body)), 4)
        wrong = [
            ("change", "item", [("row", "m")], {"nick": None}), ("change", "item", [("not", ("row", "m"))], {"nick": None}),
            ("take", "maker", [("row", "i")]), ("take", "plain", [not_nested(("row", "i"), 4)]),
            ("take", "item", [("new", "maker", "i")]), ("take", "maker", [("not", ("new", "best", "m"))]),
            ("change", "item", [], {"maker": ("new", "i")}), ("change", "maker", [], {"other": ("new", "i")}),
            ("change", "maker", [], {"best": ("new", "m"), "other": ("new", "m")}),
            ("put", "z", "maker", {"best": ("new", "m"), "other": None, "name": None}),
            ("put", "z", "maker", {"best": None, "other": ("new", "i"), "name": None}),
        ]
        for statement in wrong:
            self.bad((2,), [maker, item, statement])
            self.bad((2,), [maker, item, statement, look("maker", "other")])
            self.bad((0,), [statement, maker, item])
            self.bad((0, 0, 1), [("trial", [maker, statement]), item, look("maker", "other")])
        self.refused(Unput, "handle", "z", Script, SHOP, [maker, item, wrong[0], named("z")])

    def test_looks_that_are_not_flat(self):
        for many in range(5):
            self.bad((0,), [look("maker", "other", many)])
            self.bad((1,), [TAKE, look("maker", "other", many)])
            self.bad((0,), [look("maker", "best", many), look("item", "maker", many)])
            self.bad((0, 0, 0), [("trial", [look("maker", "best")]), ("try", [], [], [look("item", "maker", many)])])
        self.bad((0,), [look("a", "y")], FLAT)
        self.bad((0,), [look("a", "x"), look("b", "x")], FLAT)
        self.bad((1,), [look("b", "x"), look("a", "x")], FLAT)
        self.bad((1,), [look("b", "x"), ("change", "a", [("not", ("at", "x", []))], {"y": None})], FLAT)
        self.assertEqual(Script(FLAT, [look("b", "x"), look("b", "y")]).looks(), [("b", "a"), ("b", "c")])
        self.assertEqual(Script(FLAT, [look("b", "x"), ("take", "a", [("none", "x")])]).looks(), [("b", "c")])

    def test_the_least_of_both(self):
        maker = ("put", "m", "maker", {"best": None, "other": None, "name": None})
        wrong = ("take", "item", [("row", "m")])
        self.bad((1,), [maker, wrong, look("maker", "other")])
        self.bad((1,), [maker, look("maker", "other"), wrong])


class AnswersTest(RaisesCase):
    def plan(self):
        return Script(TREE, copy.deepcopy(PLAN))

    def test_answers(self):
        script = self.plan()
        self.assertEqual([script.body(), script.schema], [PLAN, TREE])
        self.assertEqual(script.addresses(), [(0,), (0, 0, 0), (0, 0, 1), (0, 1, 0), (1,)])
        self.assertEqual([script.statement_at(address) for address in script.addresses()], [PLAN[0], END, SWITCH, CUT, TOP])
        self.assertEqual([len(script), script.handles()], [5, {"top": ("task", (1,))}])
        self.held(script.is_plain(), False)
        self.assertEqual([script.tries(), script.looks()], [[(0,)], []])

    def test_an_empty_script(self):
        script = Script(TREE, [])
        self.assertEqual([script.body(), script.addresses(), script.handles(), script.looks(), script.tries(), len(script)],
                         [[], [], {}, [], [], 0])
        self.held(script.is_plain(), True)
        self.held((0,) in script, False)

    def test_contains(self):
        script = self.plan()
        for address in script.addresses():
            self.held(address in script, True)
            self.held(address not in script, False)
        for thing in [*ODD, deep(29), (2,), (0, 0), (0, 1), (0, 0, 2), (0, 2, 0), (-1,), (1, 0, 0), (0, 0, 0, 0, 0), [0],
                      (False,), (True,), (0, False, 0), (0, 0, True), (0, -1, 0), ("0",), ((0,),), (None,), ([],), "0", END,
                      (10 ** 30,)]:
            self.held(thing in script, False)

    def test_addresses_ascend(self):
        body = [("try", [("trial", [TAKE, TAKE]), TAKE], [], [("try", [], [], [TAKE])])] + [TAKE] * 3
        script = Script(SHOP, body)
        awaited = [(0,), (0, 0, 0), (0, 0, 0, 0, 0), (0, 0, 0, 0, 1), (0, 0, 1), (0, 1, 0), (0, 1, 0, 1, 0), (1,), (2,), (3,)]
        self.assertEqual([script.addresses(), len(script)], [awaited, 10])
        self.assertEqual(script.tries(), [(0,), (0, 1, 0)])
        many = Script(SHOP, [TAKE] * 12)
        self.assertEqual(many.addresses(), [(at,) for at in range(12)])

    def test_handles(self):
        script = Script(SHOP, [put("z"), ("try", [put("y")], [], [put("a")]), ("put", "b", "maker", {
            "best": None, "other": ("new", "b"), "name": ("own",)})])
        self.assertEqual(list(script.handles().items()), [
            ("a", ("plain", (1, 1, 0))), ("b", ("maker", (2,))), ("y", ("plain", (1, 0, 0))), ("z", ("plain", (0,)))])

    def test_looks(self):
        body = [("trial", [look("item", "maker", 2)]), look("item", "maker"), ("change", "item", [], {"nick": None})]
        self.assertEqual(Script(SHOP, body).looks(), [("item", "maker")])
        self.assertEqual(Script(SHOP, [look("maker", "best")]).looks(), [("maker", "item")])

    def test_is_plain(self):
        self.held(Script(SHOP, [TAKE, put("a"), ("switch", ["any"], "each")]).is_plain(), True)
        self.held(Script(SHOP, [("trial", [])]).is_plain(), False)
        self.held(Script(SHOP, [TAKE, ("try", [], [], [])]).is_plain(), False)

    def test_good_statements(self):
        for statement in GOOD:
            if not any(word in repr(statement) for word in ["'new'", "'row'"]):
                self.assertEqual(Script(SHOP, [statement]).body(), [statement])


class EditingTest(RaisesCase):
    def setUp(self):
        self.script = Script(TREE, copy.deepcopy(PLAN))

    def tearDown(self):
        self.assertEqual(self.script.body(), PLAN)

    def test_put_in(self):
        block, deed = PLAN[0], ("take", "task", [])
        awaited = {
            (0,): [deed, *PLAN], (1,): [block, deed, TOP], (2,): [*PLAN, deed],
            (0, 0, 0): [("try", [deed, END, SWITCH], ["whole"], [CUT]), TOP],
            (0, 0, 1): [("try", [END, deed, SWITCH], ["whole"], [CUT]), TOP],
            (0, 0, 2): [("try", [END, SWITCH, deed], ["whole"], [CUT]), TOP],
            (0, 1, 0): [("try", [END, SWITCH], ["whole"], [deed, CUT]), TOP],
            (0, 1, 1): [("try", [END, SWITCH], ["whole"], [CUT, deed]), TOP],
        }
        for address, body in awaited.items():
            told = self.script.put_in(address, deed)
            self.assertEqual(told, Script(TREE, body))
            self.assertEqual(told.statement_at(address), deed)
            self.assertEqual(told.without(address), self.script)

    def test_put_in_deep_and_empty_bodies(self):
        script = Script(SHOP, [("trial", [("try", [], [], [("trial", [])])])])
        for address in [(0, 0, 0, 0, 0), (0, 0, 0, 1, 0), (0, 0, 0, 1, 0, 0, 0), (0, 0, 0, 1, 1), (0, 0, 1), (1,), (0,)]:
            self.assertEqual(script.put_in(address, TAKE).statement_at(address), TAKE)
        self.assertEqual(Script(SHOP, []).put_in((0,), TAKE).body(), [TAKE])
        self.refused(BadStatement, "address", (0, 0, 0, 1, 0, 0, 0, 0, 0), script.put_in, (0, 0, 0, 1, 0, 0, 0),
                     ("trial", [TAKE]))
        full = script.put_in((0, 0, 0, 1, 0, 0, 0), ("trial", []))
        self.refused(BadStatement, "address", (0, 0, 0, 1, 0, 0, 0, 0, 0), full.put_in, (0, 0, 0, 1, 0, 0, 0, 0, 0), TAKE)
        self.refused(NoPlace, "address", (0, 0, 0, 1, 0, 0, 0, 0, 1), full.put_in, (0, 0, 0, 1, 0, 0, 0, 0, 1), TAKE)

    def test_no_place(self):
        wrong = [
            (3,), (-1,), (0, 0), (0, 1), (0, 0, 3), (0, 1, 2), (0, 2, 0), (0, -1, 0), (0, 0, -1), (1, 0, 0), (2, 0, 0),
            (0, 0, 0, 0, 0), (0, 0, 0, 0), (True,), (False,), (0, False, 0), (0, 0, True), (False, 0, 0), [0], [0, 0, 0],
            ("0",), (None,), ((0,),), ([],), (0, None, 0), (0, "a", 0), 10 ** 20, (10 ** 20,), (0, 10 ** 20, 0),
            (0, 0, 10 ** 20), *ODD, deep(29),
        ]
        for address in wrong:
            for statement in [END, None, deep(29), TOP]:
                self.refused(NoPlace, "address", address, self.script.put_in, address, statement)
            self.refused(NoPlace, "address", address, self.script.without, address)
        for address in [(2,), (0, 0, 2), (0, 1, 1)]:
            self.refused(NoPlace, "address", address, self.script.without, address)

    def test_errors_of_what_would_come(self):
        for thing in [*ODD, deep(28), ["take", "task", []], ("take", "other", [])]:
            self.refused(BadStatement, "address", (0, 0, 1), self.script.put_in, (0, 0, 1), thing)
            self.refused(BadStatement, "address", (2,), self.script.put_in, (2,), thing)
        self.refused(BadStatement, "address", (0, 0, 0, 0, 1), self.script.put_in, (0, 0, 0), ("trial", [END, None]))
        self.refused(Twice, "handle", "top", self.script.put_in, (0,), TOP)
        self.refused(Unput, "handle", "a", self.script.put_in, (0,), ("take", "task", [("row", "a")]))
        self.refused(Full, "limit", 12, self.script.put_in, (2,), ("trial", [END] * 7))
        self.refused(Full, "limit", 4, self.script.put_in, (2,), ("trial", [put_task(handle) for handle in "abcd"]))
        self.refused(BadStatement, "address", (1,), self.script.put_in, (1,), look("task", "boss"))

    def test_without(self):
        self.assertEqual(self.script.without((0,)).body(), [TOP])
        self.assertEqual(self.script.without((1,)).body(), PLAN[:1])
        self.assertEqual(self.script.without((0, 0, 0)).body(), [("try", [SWITCH], ["whole"], [CUT]), TOP])
        self.assertEqual(self.script.without((0, 1, 0)).body(), [("try", [END, SWITCH], ["whole"], []), TOP])

    def test_without_unput(self):
        script = Script(TREE, [put_task("a", "b"), ("trial", [put_task("b", "b"), put_task("c", "c")])])
        self.refused(Unput, "handle", "b", script.without, (1,))
        self.refused(Unput, "handle", "b", script.without, (1, 0, 0))
        self.assertEqual(len(script.without((1, 0, 1))), 3)
        self.assertEqual(script.without((0,)).addresses(), [(0,), (0, 0, 0), (0, 0, 1)])

    def test_order(self):
        body = [put_task("a", "b"), END, put_task("b"), CUT]
        script = Script(TREE, body)
        for places in itertools.permutations(range(4)):
            given = list(places)
            self.assertEqual(script.order(given).body(), [body[place] for place in places])
            self.assertEqual(given, list(places))
        self.assertEqual([script.body(), Script(TREE, []).order([]).body()], [body, []])

    def test_followed_by(self):
        other = Script(TREE, [END, put_task("b", "b")])
        self.assertEqual(self.script.followed_by(other).body(), [*PLAN, END, put_task("b", "b")])
        self.assertEqual(other.body(), [END, put_task("b", "b")])
        self.refused(Twice, "handle", "top", self.script.followed_by, self.script)
        self.refused(Full, "limit", 12, self.script.followed_by, Script(TREE, [END] * 8))
        self.refused(Full, "limit", 4, self.script.followed_by, Script(TREE, [put_task(handle) for handle in "abcd"]))
        one, more = Script(FLAT, [look("a", "x")]), Script(FLAT, [look("b", "x")])
        self.refused(BadStatement, "address", (0,), one.followed_by, more)
        self.refused(BadStatement, "address", (1,), more.followed_by, one)
        self.assertEqual(len(self.script.followed_by(Script(TREE, [END] * 7))), 12)


class EqualityTest(RaisesCase):
    def test_equal(self):
        script = Script(TREE, PLAN)
        self.held(script == Script(tree(), copy.deepcopy(PLAN)), True)
        self.held(script != Script(tree(), copy.deepcopy(PLAN)), False)
        turned = ("put", "top", "task", dict(reversed(TOP[3].items())))
        self.held(script == Script(TREE, [PLAN[0], turned]), True)

    def test_not_equal(self):
        script = Script(TREE, PLAN)
        for body in [PLAN[:1], PLAN[::-1], [], [*PLAN, END], [("try", [END, SWITCH], [], [CUT]), TOP],
                     [("try", [CUT, SWITCH], ["whole"], [END]), TOP]]:
            self.held(script == Script(TREE, body), False)
        rules = [TREE.rule_of(name) for name in ["whole", "code", "some"]]
        self.held(script == Script(tree(rules), PLAN), False)
        one, other = [Script(TREE, [("take", "task", [("is", "state", words)])]) for words in [["open"], ["open", "open"]]]
        self.held(one == other, False)

    def test_nothing_else_is_equal(self):
        for thing in [*ODD, PLAN, TREE]:
            self.held(Script(TREE, PLAN) == thing, False)
            self.held(thing == Script(TREE, PLAN), False)


class CopiesTest(RaisesCase):
    def test_what_was_passed_in_is_changed_behind(self):
        words, names, caught = ["open"], ["whole"], ["whole"]
        sets, row = {"state": "done"}, {"state": "open", "boss": None, "code": None}
        tests, plain = [("is", "state", words)], [("is", "state", words)]
        inner = [("change", "task", tests, sets)]
        deeper = [("trial", inner)]
        body = [("try", deeper, caught, []), ("put", "a", "task", row), ("switch", names, "each")]
        before = copy.deepcopy(body)
        script = Script(TREE, body)
        self.assertEqual(body, before)
        self.assertEqual(list(body[1][3]), ["state", "boss", "code"])
        words.append("done")
        names.append("code")
        caught.clear()
        sets["code"] = None
        row["boss"] = ("new", "a")
        tests.extend(plain)
        inner.append(END)
        deeper.append(END)
        body.append(END)
        self.assertEqual([script.body(), len(script)], [before, 5])
        self.assertEqual(script.statement_at((0, 0, 0, 0, 0)), before[0][1][0][1][0])

    def test_at_tests_are_copied(self):
        inner = [("none", "best")]
        script = Script(SHOP, [("take", "item", [("not", ("at", "maker", inner))])])
        inner.clear()
        self.assertEqual(script.statement_at((0,)), ("take", "item", [("not", ("at", "maker", [("none", "best")]))]))

    def test_what_was_told_is_changed_behind(self):
        script = Script(TREE, PLAN)
        script.body()[0][1][0][2].append(("none", "code"))
        script.body()[0][1][0][3]["boss"] = None
        script.body()[0][2].clear()
        script.body()[0][1].clear()
        script.body().clear()
        script.statement_at((0,))[1].clear()
        script.statement_at((0, 0, 0))[3].clear()
        script.statement_at((0, 0, 1))[1].clear()
        script.statement_at((1,))[3]["boss"] = None
        for told in [script.addresses(), script.handles(), script.tries(), script.looks()]:
            told.clear()
        self.assertEqual([script.body(), script], [PLAN, Script(TREE, PLAN)])
        self.assertEqual([script.statement_at(address) for address in script.addresses()], [PLAN[0], END, SWITCH, CUT, TOP])
        self.assertEqual([script.handles(), script.tries()], [{"top": ("task", (1,))}, [(0,)]])

    def test_edited_scripts_share_nothing(self):
        script, deed = Script(TREE, PLAN), ("change", "task", [("is", "state", ["open"])], {"code": None})
        kept = copy.deepcopy(deed)
        told = script.put_in((2,), deed)
        deed[2][0][2].append("done")
        deed[3]["boss"] = None
        self.assertEqual(told.statement_at((2,)), kept)
        told.statement_at((0,))[1].clear()
        self.assertEqual([script.body(), told.body()], [PLAN, [*PLAN, kept]])

    def test_dicts_ascend(self):
        script = Script(TREE, [("trial", [TOP]), ("change", "task", [], {"state": "open", "code": None, "boss": None})])
        self.assertEqual(list(script.statement_at((0, 0, 0))[3]), ["boss", "code", "state"])
        self.assertEqual(list(script.body()[0][1][0][3]), ["boss", "code", "state"])
        self.assertEqual(list(script.statement_at((1,))[3]), ["boss", "code", "state"])


def random_body(chance, depth):
    body = []
    for _ in range(chance.randint(0, 3)):
        kind = chance.randint(0, 5 if depth < 3 else 3)
        if kind == 4:
            body.append(("trial", random_body(chance, depth + 1)))
        elif kind == 5:
            body.append(("try", random_body(chance, depth + 1), ["any"], random_body(chance, depth + 1)))
        else:
            body.append(chance.choice([TAKE, ("switch", ["any"], "late"), look("item", "maker")]))
    return body


class RandomTest(RaisesCase):
    def places(self, body, ahead=()):
        """All addresses at which a statement can be put, and those at which one stands."""
        for at in range(len(body) + 1):
            yield (*ahead, at), at < len(body)
            if at < len(body):
                inner = {"trial": body[at][1:], "try": body[at][1::2]}.get(body[at][0], ())
                for number, lower in enumerate(inner):
                    yield from self.places(lower, (*ahead, at, number))

    def test_places(self):
        chance = random.Random(4)
        made = 0
        while made < 60:
            body = random_body(chance, 0)
            places = list(self.places(body))
            if sum(stands for _, stands in places) > 11:
                continue
            made += 1
            script = Script(SHOP, body)
            self.assertEqual(script.addresses(), sorted(place for place, stands in places if stands))
            for place, stands in places:
                self.held(place in script, stands)
                if len(place) <= 7:
                    more = script.put_in(place, TAKE)
                    self.assertEqual([len(more), more.statement_at(place)], [len(script) + 1, TAKE])
                    self.assertEqual(more.without(place), script)
                if stands:
                    less = script.without(place)
                    self.assertEqual(less.put_in(place, script.statement_at(place)), script)
            known = [place for place, _ in places]
            for _ in range(50):
                place = tuple(chance.randint(-1, 3) for _ in range(chance.randint(0, 7)))
                if place not in known:
                    self.refused(NoPlace, "address", place, script.put_in, place, TAKE)
                    self.refused(NoPlace, "address", place, script.without, place)


if __name__ == "__main__":
    unittest.main()
