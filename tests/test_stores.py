"""Points 2, 3, 4, 12, 13 and 50: stores."""

import copy
import random
import unittest

from endchecks.doing import done, holds_within, touched
from endchecks.errors import BadStatement, Broken, Full, Illegal, Taken, Wrong
from endchecks.schemas import Schema
from endchecks.spots import first_broken, holds, spot_rows, spots
from endchecks.stores import Store
from endchecks.tables import Tables
from tests.cases import RaisesCase
from tests.drawn import draw_legal, draw_modes, draw_schema, draw_single
from tests.samples import ODD, RULES, deep, task, tasks, tree
from tests.test_statements import BAD, GOOD, SHOP
from tests.test_tables import many_tasks

END = ("change", "task", [("none", "boss")], {"state": "done", "code": None})
CUT = ("change", "task", [("not", ("none", "boss"))], {"boss": None})
TOP = ("put", "top", "task", {"state": "open", "boss": ("new", "top"), "code": ("word", "x")})
NEW = ("put", "new", "task", {"state": "open", "boss": None, "code": ("own",)})
TAKE = ("take", "task", [])
ROWS = {"a": ("open", None, "x"), "b": ("open", "a")}
ALL_LATE = {"whole": "late", "some": "late", "code": "late"}


def store(modes=(), rows=ROWS, rules=RULES):
    return Store(tree(rules), tasks(rows, rules), dict(modes))


def told(it):
    """All that a Store tells."""
    return [it.tables(), it.modes(), it.log(), [it.pending(name) for name in it.schema.names()], it.broken(), len(it)]


class StoreCase(RaisesCase):
    def unchanged(self, it, kind, field, value, call, *args):
        before = told(it)
        self.refused(kind, field, value, call, *args)
        self.assertEqual(told(it), before)


class MakingTest(StoreCase):
    def test_the_first_wrong_argument(self):
        others = [Tables(tree([])), Tables(SHOP), Schema, *ODD, deep(29)]
        for thing in [*ODD, deep(29), {"task": {}}, Schema, Tables(tree())]:
            for tables in [tasks(ROWS), *others[:3]]:
                self.refused(Wrong, "place", 0, Store, thing, tables, {})
                self.refused(Wrong, "place", 0, Store, thing, tables, None)
        for thing in others:
            for modes in [{}, None, {"whole": "soon"}]:
                self.refused(Wrong, "place", 1, Store, tree(), thing, modes)
        for thing in [*ODD, {"whole": "soon"}, {"whole": None}, {"whole": True}, {"task": "now"}, {"whole": ["now"]},
                      {"whole": "now", "other": "now"}, {"whole": "now", 1: "now"}, [("whole", "now")], {("whole",): "now"},
                      {"whole": "now", "some": "Late"}, deep(29)]:
            if thing != {} or not isinstance(thing, dict):
                self.refused(Wrong, "place", 2, Store, tree(), tasks(ROWS), thing)

    def test_wrong_is_ahead_of_illegal(self):
        self.refused(Wrong, "place", 2, Store, tree(), tasks({}), {"whole": "soon"})
        self.refused(Illegal, "rule", "some", Store, tree(), tasks({}), {})
        self.refused(Wrong, "place", 1, Store, tree(RULES[:1]), tasks({}), {})

    def test_illegal_with_the_first_rule(self):
        broken = {"a": ("done", "b", "x"), "b": ("done", None, "x")}
        for modes in [{}, ALL_LATE, {"code": "each"}]:
            self.refused(Illegal, "rule", "whole", Store, tree(), tasks(broken), modes)
            self.refused(Illegal, "rule", "some", Store, tree(), tasks({}), modes)
        order = [RULES[2], RULES[0]]
        self.refused(Illegal, "rule", "code", Store, tree(order), tasks(broken, order), {})

    def test_an_equal_schema(self):
        other = {"code": ("tag",), "boss": ("link", "task"), "state": ("mark", ["done", "open"])}
        it = Store(Schema({"task": other}, tuple(RULES)), tasks(ROWS), {})
        self.assertEqual([it.schema, it.tables(), it], [tree(), tasks(ROWS), store()])

    def test_what_it_tells(self):
        it = store({"some": "late", "code": "each"})
        self.assertEqual(told(it), [tasks(ROWS), {"whole": "now", "some": "late", "code": "each"}, [], [[], [], []], [], 0])
        self.assertEqual(list(it.modes()), ["code", "some", "whole"])
        self.assertEqual(store({}, {}, []).modes(), {})

    def test_new_ids_may_be_in_it(self):
        rows = {"+top": ("open", "+top", "+top.code")}
        it = store({}, rows)
        self.unchanged(it, Taken, "ident", "+top", it.do, TOP)
        self.assertEqual(it.do(TAKE[:2] + ([("row", "x")],)), [])


class DoTest(StoreCase):
    def test_no_statements(self):
        tables = Tables(SHOP)
        tables["maker", "m"] = {"best": None, "other": None, "name": None}
        it = Store(SHOP, tables, {})
        blocks = [thing for thing in GOOD if thing[0] in ("trial", "try")]
        self.assertGreater(len(blocks), 1)
        for thing in [*BAD, *ODD, *blocks, deep(29), ("trial", []), ("try", [], [], []), [TAKE], ("take", "task", [])]:
            self.unchanged(it, BadStatement, "address", (), it.do, thing)

    def test_good_statements(self):
        tables = Tables(SHOP)
        tables["maker", "m"] = {"best": None, "other": None, "name": None}
        for thing in GOOD:
            if thing[0] in ("put", "change", "take", "switch"):
                it = Store(SHOP, tables, {name: "late" for name in SHOP.names()})
                before = copy.deepcopy(thing)
                if thing[0] == "switch":
                    self.assertEqual(it.do(thing), [])
                else:
                    self.assertEqual(it.do(thing), touched(tables, thing))
                self.assertEqual([it.log(), thing], [[before], before])

    def test_put_change_and_take(self):
        it = store(ALL_LATE)
        self.assertEqual(it.do(END), ["a"])
        self.assertEqual(it.do(TOP), ["+top"])
        self.assertEqual(it.do(TAKE), ["+top", "a", "b"])
        self.assertEqual(it.do(TAKE), [])
        self.assertEqual([it.log(), len(it), len(it.tables())], [[END, TOP, TAKE, TAKE], 4, 0])

    def test_taken_then_full_then_rules(self):
        rows = many_tasks(199)
        it = Store(tree(), rows, {})
        self.assertEqual(it.do(NEW), ["+new"])
        self.unchanged(it, Taken, "ident", "+new", it.do, NEW)
        clash = ("put", "other", "task", {"state": "open", "boss": ("new", "nobody"), "code": None})
        self.unchanged(it, Full, "limit", 200, it.do, clash)
        self.assertEqual(len(it.do(("take", "task", [("row", "new")]))), 1)
        self.unchanged(it, Broken, "rule", "whole", it.do, clash)

    def test_rules_in_their_order(self):
        both = ("put", "n", "task", {"state": "open", "boss": ("new", "nobody"), "code": ("word", "x")})
        for rules, first in [(RULES, "whole"), ([RULES[2], RULES[0]], "code"), ([RULES[1], RULES[2]], "code")]:
            for modes in [{}, {"code": "each"}, {first: "each"}]:
                it = store(modes, ROWS, rules)
                self.unchanged(it, Broken, "rule", first, it.do, both)
        it = store({"whole": "late"})
        self.unchanged(it, Broken, "rule", "code", it.do, both)
        it = store({"whole": "late", "code": "late"})
        self.assertEqual(it.do(both), ["+n"])
        self.assertEqual(it.broken(), ["whole", "code"])

    def test_within_and_behind(self):
        """Rows change one by one: a boss that is done, while the other one still links to it."""
        rules = [("whole", "link", "task", "boss", [("is", "state", ["open"])], [("is", "state", ["open"])])]
        shut = ("change", "task", [], {"state": "done"})
        now, each, late = [store({"whole": mode}, ROWS, rules) for mode in ["now", "each", "late"]]
        self.unchanged(each, Broken, "rule", "whole", each.do, shut)
        self.assertEqual([now.do(shut), late.do(shut)], [["a", "b"], ["a", "b"]])
        self.assertEqual([now.broken(), now.pending("whole"), late.pending("whole")], [[], [], ["a", "b"]])

    def test_all_rules_at_a_change_that_touches_nobody(self):
        nobody = ("change", "task", [("row", "none")], {"state": "open"})
        it = store({"whole": "late", "some": "each"})
        it.do(END)
        self.assertEqual(it.checks(nobody), [("some", "within"), ("code", "behind")])
        self.assertEqual([it.do(nobody), it.broken(), it.pending("whole")], [[], ["whole"], ["a"]])
        self.unchanged(it, Broken, "rule", "whole", it.do, ("switch", ["whole"], "each"))

    def test_each_and_some(self):
        rules = [("some", "some", "task", [("is", "state", ["done"])])]
        it = store({"some": "each"}, {"a": ("done",), "b": ("open",)}, rules)
        turn = ("change", "task", [("is", "state", ["open"])], {"state": "done"})
        back = ("change", "task", [], {"state": "done", "code": None})
        self.assertEqual([it.do(turn), it.do(back)], [["b"], ["a", "b"]])
        self.unchanged(it, Broken, "rule", "some", it.do, ("change", "task", [], {"state": "open"}))
        self.assertEqual(it.do(("take", "task", [("row", "none")])), [])
        self.unchanged(it, Broken, "rule", "some", it.do, TAKE)

    def test_log_and_pending_as_ahead_of_broken(self):
        it = store({"code": "late"})
        it.do(("change", "task", [], {"code": None}))
        self.assertEqual([it.pending(name) for name in ["whole", "some", "code"]], [[], [], ["a", "b"]])
        self.unchanged(it, Broken, "rule", "some", it.do, TAKE)
        self.unchanged(it, Broken, "rule", "whole", it.do, END)


class SwitchTest(StoreCase):
    def test_modes(self):
        it = store()
        self.assertEqual(it.do(("switch", ["some", "whole"], "late")), [])
        self.assertEqual(it.modes(), {"code": "now", "some": "late", "whole": "late"})
        self.assertEqual(it.do(("switch", ["some"], "each")), [])
        self.assertEqual(it.modes(), {"code": "now", "some": "each", "whole": "late"})
        self.assertEqual(list(it.modes()), ["code", "some", "whole"])
        self.assertEqual(it.log(), [("switch", ["some", "whole"], "late"), ("switch", ["some"], "each")])

    def test_rules_with_the_names_of_tables_and_handles(self):
        rules = [("task", "some", "task", []), ("n", "unique", "task", "code")]
        it = store({"task": "late"}, ROWS, rules)
        it.do(("put", "n", "task", {"state": "open", "boss": None, "code": None}))
        it.do(("take", "task", [("row", "n")]))
        self.assertEqual(it.modes(), {"n": "now", "task": "late"})

    def test_rules_are_checked_whatever_their_modes_were(self):
        for mode in ["now", "each"]:
            it = store({"whole": "late"})
            it.do(END)
            self.unchanged(it, Broken, "rule", "whole", it.do, ("switch", ["code", "whole"], mode))
            self.assertEqual(it.do(("switch", ["code"], mode)), [])
            self.assertEqual(it.do(("switch", ["whole"], "late")), [])
            it.do(CUT)
            self.assertEqual(it.do(("switch", ["whole"], mode)), [])
            # A rule that is checked at each statement has nothing pending; a switch to its own mode is checked too.
            self.assertEqual(it.do(("switch", ["whole"], mode)), [])
            self.assertEqual([it.pending("whole"), it.modes()["whole"]], [[], mode])

    def test_in_the_order_of_the_rules(self):
        it = store(ALL_LATE)
        it.do(END)
        it.do(("change", "task", [], {"boss": ("new", "nobody")}))
        it.do(("put", "one", "task", {"state": "open", "boss": None, "code": ("word", "x")}))
        it.do(("put", "two", "task", {"state": "open", "boss": None, "code": ("word", "x")}))
        for names in [["code", "whole"], ["whole", "code"]]:
            self.unchanged(it, Broken, "rule", "whole", it.do, ("switch", names, "now"))
        self.unchanged(it, Broken, "rule", "code", it.do, ("switch", ["code", "some"], "each"))

    def test_a_rule_is_late_and_nothing_is_checked(self):
        it = store({"whole": "late"})
        it.do(END)
        self.assertEqual([it.do(("switch", ["whole", "code"], "late")), it.pending("whole")], [[], ["a"]])
        self.assertEqual(it.checks(("switch", ["whole", "code"], "late")), [])

    def test_the_others_are_not_checked(self):
        it = store({"whole": "late"})
        it.do(END)
        self.assertEqual(it.do(("switch", ["some"], "now")), [])
        self.assertEqual(it.broken(), ["whole"])


class FinishTest(StoreCase):
    def test_finish(self):
        it = store({"whole": "late", "some": "late"})
        it.do(END)
        self.unchanged(it, Broken, "rule", "whole", it.finish)
        it.do(TAKE[:2] + ([("row", "none")],))
        it.do(CUT)
        self.assertEqual([it.pending(name) for name in ["whole", "some", "code"]], [["a", "b"], ["a", "b"], []])
        self.assertIsNone(it.finish())
        self.assertEqual([it.pending(name) for name in ["whole", "some", "code"]], [[], [], []])
        self.assertEqual([len(it), it.modes()["whole"]], [3, "late"])

    def test_late_ones_in_their_order(self):
        it = store({"some": "late", "code": "late"}, ROWS, RULES[::-1])
        it.do(("change", "task", [], {"code": None, "boss": None}))
        self.assertIsNone(it.finish())
        it.do(TAKE)
        self.unchanged(it, Broken, "rule", "some", it.finish)
        it.do(("put", "one", "task", {"state": "open", "boss": None, "code": ("word", "x")}))
        it.do(("put", "two", "task", {"state": "open", "boss": None, "code": ("word", "x")}))
        self.unchanged(it, Broken, "rule", "code", it.finish)
        self.assertEqual(it.pending("some"), ["+one", "+two", "a", "b"])

    def test_only_late_ones(self):
        it = store()
        it.finish()
        self.assertEqual(it.end_checks(), [])
        it = store({"some": "late", "code": "late"})
        self.assertEqual(it.end_checks(), [("some", "behind"), ("code", "behind")])
        self.assertEqual(store({"some": "each"}).end_checks(), [])


class ChecksTest(StoreCase):
    def test_checks(self):
        it = store({"code": "each", "some": "late"})
        for statement in [END, TAKE, TOP, ("take", "task", [("row", "none")])]:
            self.assertEqual(it.checks(statement), [("whole", "behind"), ("code", "within")])
        for names in [["code", "some"], ["some", "code"]]:
            for mode in ["each", "now"]:
                self.assertEqual(it.checks(("switch", names, mode)), [("some", "behind"), ("code", "behind")])
        self.assertEqual(store(ALL_LATE).checks(TOP), [])
        self.assertEqual([told(it), len(it)], [told(store({"code": "each", "some": "late"})), 0])

    def test_pending_by_rule(self):
        it = store({"whole": "late", "some": "late", "code": "each"})
        it.do(END)
        it.do(("switch", ["some"], "late"))
        self.assertEqual([it.pending(name) for name in ["whole", "some", "code"]], [["a"], ["a"], []])
        it.do(("switch", ["some"], "now"))
        self.assertEqual([it.pending(name) for name in ["whole", "some", "code"]], [["a"], [], []])
        it.do(("switch", ["some"], "late"))
        it.do(NEW)
        it.do(NEW[:1] + ("again",) + NEW[2:])
        it.do(CUT)
        self.assertEqual([it.pending(name) for name in ["whole", "some", "code"]],
                         [["+again", "+new", "a", "b"], ["+again", "+new", "b"], []])

    def test_broken(self):
        it = store(ALL_LATE, ROWS, RULES[::-1])
        self.assertEqual(it.broken(), [])
        it.do(TAKE)
        self.assertEqual(it.broken(), ["some"])
        it.do(("put", "one", "task", {"state": "open", "boss": ("new", "no"), "code": ("word", "x")}))
        it.do(("put", "two", "task", {"state": "open", "boss": None, "code": ("word", "x")}))
        self.assertEqual(it.broken(), ["code", "whole"])


class BlocksTest(StoreCase):
    def acts(self, it):
        """Acts that change all that there is, and end in one way or another."""
        def change(inner):
            self.assertIs(inner, it)
            inner.do(("change", "task", [("none", "boss")], {"code": None}))
            inner.do(("switch", ["code"], "each"))
            self.assertNotEqual(told(inner), self.before)

        def plain(inner):
            change(inner)
            return ["answer"]

        def own_error(inner):
            change(inner)
            inner.do(TAKE)

        def other_error(inner):
            change(inner)
            raise KeyError("x")

        def outside(inner):
            change(inner)
            raise KeyboardInterrupt

        return plain, own_error, other_error, outside

    def test_trial(self):
        it = store({"whole": "late"})
        it.do(END)
        self.before = told(it)
        plain, own_error, other_error, outside = self.acts(it)
        self.assertEqual(it.trial(plain), ["answer"])
        self.assertEqual(told(it), self.before)
        self.refused(Broken, "rule", "some", it.trial, own_error)
        self.assertEqual(told(it), self.before)
        for act, kind in [(other_error, KeyError), (outside, KeyboardInterrupt), (5, TypeError)]:
            with self.assertRaises(kind):
                it.trial(act)
            self.assertEqual(told(it), self.before)
        self.assertIsNone(it.trial(lambda inner: None))

    def test_guard(self):
        it = store({"whole": "late"})
        it.do(END)
        self.before = told(it)
        plain, own_error, other_error, outside = self.acts(it)
        self.refused(Broken, "rule", "some", it.guard, own_error)
        self.assertEqual(told(it), self.before)
        for act, kind in [(other_error, KeyError), (outside, KeyboardInterrupt), (5, TypeError)]:
            with self.assertRaises(kind):
                it.guard(act)
            self.assertEqual(told(it), self.before)
        self.assertEqual(it.guard(plain), ["answer"])
        self.assertEqual([len(it), it.modes()["code"]], [3, "each"])
        self.assertEqual(it.guard(lambda inner: None), None)
        self.assertEqual(len(it), 3)

    def test_within_one_another(self):
        it = store(ALL_LATE)

        def failing(inner):
            inner.do(TAKE)
            raise ValueError("x")

        def outer(inner):
            inner.do(END)
            with self.assertRaises(ValueError):
                inner.guard(failing)
            self.assertEqual(inner.log(), [END])
            inner.guard(lambda it: it.do(CUT))
            self.assertEqual(inner.log(), [END, CUT])
            inner.trial(lambda it: it.trial(lambda its: its.do(TAKE)))
            self.assertEqual(inner.log(), [END, CUT])
            return inner.pending("whole")

        self.assertEqual(it.trial(outer), ["a", "b"])
        self.assertEqual(told(it), told(store(ALL_LATE)))
        self.assertEqual(it.guard(outer), ["a", "b"])
        self.assertEqual(it.log(), [END, CUT])

    def test_finish_in_a_trial(self):
        it = store({"some": "late"})
        it.do(CUT)
        it.trial(Finishing())
        self.assertEqual(it.pending("some"), ["b"])
        it.guard(Finishing())
        self.assertEqual(it.pending("some"), [])


class Finishing:
    """A callable object."""

    def __call__(self, it):
        it.finish()


class CopyTest(StoreCase):
    def test_copied(self):
        it = store({"whole": "late"})
        it.do(END)
        twin = it.copied()
        self.held(twin == it, True)
        self.assertEqual([told(twin), twin.schema], [told(it), it.schema])
        before = told(it)
        twin.do(CUT)
        self.assertEqual(told(it), before)
        self.held(twin == it, False)
        it.do(CUT)
        self.held(twin == it, True)
        self.refused(Broken, "rule", "some", twin.do, TAKE)
        self.refused(BadStatement, "address", (), twin.do, None)

    def test_copied_in_a_trial(self):
        it = store(ALL_LATE)

        def act(inner):
            inner.do(TAKE)
            kept.append(inner.copied())
            inner.do(TOP)
            kept.append(inner.copied())

        kept = []
        it.trial(act)
        self.assertEqual([twin.log() for twin in kept], [[TAKE], [TAKE, TOP]])
        self.assertEqual([twin.pending("some") for twin in kept], [["a", "b"], ["+top", "a", "b"]])
        kept[0].do(TOP)
        self.held(kept[0] == kept[1], True)
        self.assertEqual(told(it), told(store(ALL_LATE)))

    def test_equal_in_all_parts(self):
        one = store({"whole": "late"})
        self.held(one == store({"whole": "late", "some": "now"}), True)
        self.held(one == store({"whole": "late", "some": "each"}), False)
        self.held(one == store({"whole": "late"}, {"a": ROWS["a"]}), False)
        self.held(one == store({"whole": "late"}, ROWS, RULES[::-1]), False)
        # The same tables and modes by other statements, and by the same ones with other pending ids.
        other = store({"whole": "late"})
        same = ("change", "task", [], {"code": ("field", "code")})
        nothing = ("take", "task", [("row", "none")])
        one.do(nothing)
        self.held(one == other, False)
        other.do(nothing)
        self.held(one == other, True)
        one.do(same)
        other.do(nothing)
        self.held(one == other, False)
        late, now = store({"whole": "late"}), store({"whole": "now"})
        for it in [late, now]:
            it.do(same)
            it.do(("switch", ["whole"], "late"))
        self.assertEqual([late.tables(), late.modes(), late.log()], [now.tables(), now.modes(), now.log()])
        self.held(late == now, False)
        late.finish()
        self.held(late == now, True)

    def test_nothing_else_is_equal(self):
        for thing in [*ODD, tree(), tasks(ROWS)]:
            self.held(store() == thing, False)
            self.held(thing == store(), False)
        self.held(store() != store(), False)

    def test_what_was_passed_in_or_told_is_changed_behind(self):
        tables, modes = tasks(ROWS), {"whole": "late"}
        it = Store(tree(), tables, modes)
        statement = ("change", "task", [("none", "boss")], {"state": "done"})
        switch = ("switch", ["code"], "late")
        before = told(it)
        tables.drop("task", "a")
        modes["whole"] = "now"
        self.assertEqual(told(it), before)
        it.do(statement)
        it.do(switch)
        before = copy.deepcopy(told(it)[1:])
        statement[2].append("x")
        statement[3]["code"] = None
        switch[1].append("x")
        it.tables().drop("task", "a")
        it.modes()["code"] = "x"
        it.log()[0][2].append("x")
        it.log()[0][3]["x"] = "x"
        it.log().append("x")
        it.pending("whole").append("x")
        it.broken().append("x")
        it.checks(TAKE).append("x")
        it.end_checks().append("x")
        it.do(("take", "task", [("row", "none")])).append("x")
        self.assertEqual([told(it)[1], told(it)[3], told(it)[4]], [before[0], before[2], before[3]])
        self.assertEqual(it.log()[:2], before[1])
        self.assertEqual(("task", "a") in it.tables(), True)


def passes(before, after, statement, name, way):
    return holds_within(before, statement, name) if way == "within" else holds(after, name)


class DrawnTest(StoreCase):
    def step(self, it, statement):
        """Does a statement as point 50 has it; returns whether it was done."""
        before, tables, modes = told(it), it.tables(), it.modes()
        awaited, names = it.checks(statement), it.schema.names()
        if statement[0] == "switch":
            after, ids = tables, []
            checked = [] if statement[2] == "late" else [(name, "behind") for name in names if name in statement[1]]
            modes.update({name: statement[2] for name in statement[1]})
        else:
            if statement[0] == "put" and tables.table_of("+" + statement[1]):
                self.unchanged(it, Taken, "ident", "+" + statement[1], it.do, statement)
                return
            after, ids = done(tables, statement), touched(tables, statement)
            ways = {"each": "within", "now": "behind"}
            checked = [(name, ways[modes[name]]) for name in names if modes[name] in ways]
        self.assertEqual(awaited, checked)
        wrong = [name for name, way in checked if not passes(tables, after, statement, name, way)]
        if wrong:
            self.unchanged(it, Broken, "rule", wrong[0], it.do, statement)
            return
        self.assertEqual(it.do(statement), ids)
        pending = [[] if name in [check[0] for check in checked] else sorted({*ids, *old})
                   for name, old in zip(names, before[3])]
        broken = [name for name in names if not holds(after, name)]
        self.assertEqual(told(it), [after, modes, before[2] + [statement], pending, broken, before[5] + 1])

    def only_touched(self, it):
        """Guarantee 12."""
        for name in it.schema.names():
            for spot in spots(it.tables(), name):
                self.assertTrue(it.pending(name))
                self.assertTrue(spot == () or {*spot} & {*it.pending(name)})
                self.assertEqual(spot_rows(spot), sorted({*spot}))

    def draw(self, chance):
        schema = draw_schema(chance, many_rules=5)
        tables = draw_legal(chance, schema)
        return None if tables is None else Store(schema, tables, draw_modes(chance, schema))

    def test_steps(self):
        for seed in range(250):
            chance = random.Random(seed)
            it = self.draw(chance)
            for _ in range(chance.randint(1, 9)) if it else []:
                statement = draw_single(chance, it.schema, ["h", "i"], [chance.choice("hi")], 1)
                self.step(it, statement)
                self.only_touched(it)
                if chance.random() < 0.2:
                    before = told(it)
                    late = [name for name, _ in it.end_checks() if name in it.broken()]
                    if late:
                        self.unchanged(it, Broken, "rule", late[0], it.finish)
                    else:
                        it.finish()
                        late = [name for name, _ in it.end_checks()]
                        self.assertEqual([it.pending(name) for name in it.schema.names()],
                                         [[] if name in late else old for name, old in zip(it.schema.names(), before[3])])

    def test_undone(self):
        """Guarantee 13, for stores."""
        for seed in range(100):
            chance = random.Random(seed)
            it = self.draw(chance)
            if it is None:
                continue
            statements = [draw_single(chance, it.schema, ["h", "i"], [handle], 1) for handle in "hihi"]

            def act(inner):
                for statement in statements:
                    inner.do(statement)
                inner.finish()
                return told(inner)

            before = told(it)
            for block in [it.trial, it.guard]:
                try:
                    behind = block(act)
                except (Broken, Taken):
                    behind = before
                self.assertEqual(told(it), behind if block == it.guard else before)
        self.assertIsNone(first_broken(tasks(ROWS)))


if __name__ == "__main__":
    unittest.main()
