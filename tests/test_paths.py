"""Points 5, 6, 7, 8 and 80: paths, tables for them, and bars of the others."""

import copy
import itertools
import random
import unittest

from endchecks.errors import Full, TooMany
from endchecks.fits import (
    breaks, is_linked_badly, is_linked_well, is_shared_badly, is_shared_well, is_worded_badly, is_worded_well, meets_some,
    new_breaks, new_meets)
from endchecks.hubs import needed
from endchecks.names import is_name
from endchecks.paths import bar, can_go, fits, is_bar, paths, tables_for, tables_on
from endchecks.rowkinds import how_many, kind_of, row_kinds
from endchecks.runs import run
from endchecks.schemas import Schema
from endchecks.scripts import Script
from endchecks.spots import is_legal
from endchecks.supports import are_falls, supports
from endchecks.tables import Tables
from endchecks.ways import course, open_course
from tests.cases import RaisesCase
from tests.drawn import draw_legal, draw_lively, draw_modes, draw_schema, draw_script, draw_tables
from tests.samples import ODD, deep, task, tasks, tree
from tests.test_supports import GONE, NONE, OTHER, SELF, U, V, checks_of, links_of, looking, looks_of, rule_sort
from tests.test_tables import many_tasks
from tests.test_ways import paths_by_form

END = ("change", "task", [("none", "boss")], {"state": "done"})
CUT = ("change", "task", [("not", ("none", "boss"))], {"boss": None})
TAKE = ("take", "task", [])


def simple(rules, body, **fields):
    """A script over one table t with a mark m and a link x to itself, and what else is passed."""
    return Script(Schema({"t": {"m": ("mark", ["u", "v"]), "x": ("link", "t"), **fields}}, rules), body)


def spots_by_definition(several, check, number, kinds):
    """All spots of a check that is not passed, with kinds alone, by the functions of fits."""
    script, its_course = several[number]
    schema, found = script.schema, []
    found += [("row", kind) for kind in kinds if breaks(script, its_course, check, kind)]
    found += [("new", handle) for handle in script.handles() if new_breaks(script, its_course, check, handle)]
    for kind in kinds:
        for field in [field for field, link in links_of(several, kind) if link == OTHER]:
            for other in [other for other in kinds if other[0] == schema.leads_to(kind[0], field)]:
                if rule_sort(script, check) == "link" and is_linked_badly(script, its_course, check, kind, field, other):
                    if all(is_linked_well(*pair, kind, field, other) for pair in several):
                        found.append(("linked", kind, field, other))
        if rule_sort(script, check) == "unique" and kind[0] == schema.rule_of(check[2])[2]:
            for field in schema.tags(kind[0]):
                found += named_spots(several, check, number, kinds, kind, field)
    return found


def named_spots(several, check, number, kinds, kind, field):
    script, its_course = several[number]
    schema, found = script.schema, []
    truths = {other: dict(zip(schema.tags(other[0]), other[3])) for other in kinds}
    if not truths[kind][field]:
        return []
    for other in [other for other in kinds if other[0] == kind[0]]:
        for its in [its for its in schema.tags(kind[0]) if truths[other][its]]:
            if is_shared_badly(script, its_course, check, kind, field, other, its):
                if all(is_shared_well(*pair, kind, field, other, its) for pair in several):
                    found.append(("shared", kind, field, other, its))
    for word in ["x", "y"]:
        if is_worded_badly(script, its_course, check, kind, field, word):
            if all(is_worded_well(*pair, kind, field, word) for pair in several):
                found.append(("worded", kind, field, word))
    return found


def is_in_the_way(several, kinds, reason):
    """Whether the reason of a bar is right for kinds, by the words of the document."""
    script, its_course = several[reason[1]]
    check, is_some = reason[2], rule_sort(script, reason[2]) == "some"
    if check not in checks_of(script, its_course):
        return False
    if reason[0] == "new":
        if check[4]:
            return not is_some and new_breaks(script, its_course, check, reason[3])
        return is_some and new_meets(script, its_course, check, reason[3])
    if reason[0] == "some":
        met = [meets_some(script, its_course, check, kind) for kind in kinds]
        met += [new_meets(script, its_course, check, handle) for handle in script.handles()]
        return is_some and check[4] and not any(met)
    return not is_some and not check[4] and spots_by_definition(several, check, reason[1], kinds) == []


class PathsCase(RaisesCase):
    def look_at(self, several, kinds, tables):
        """That tables fit, with three rows or more of each of some kinds, which are as in hubs."""
        schema, looks = several[0][0].schema, looks_of(several)
        self.held(fits(several, tables), True)
        self.assertTrue(is_legal(tables))
        self.assertTrue(all(is_name(ident) for ident in tables.ids()))
        found = [kind_of(tables, looks, ident) for ident in tables.ids()]
        for kind in kinds:
            self.assertGreaterEqual(found.count(kind), 3)
        nobodies = [link for ident, kind in zip(tables.ids(), found) for (field, told) in links_of(several, kind)
                    for link in [tables[kind[0], ident][field]] if told == GONE]
        self.assertEqual(len({*nobodies}), len(nobodies))
        names = [name for ident, kind in zip(tables.ids(), found) for tag in schema.tags(kind[0])
                 for name in [tables[kind[0], ident][tag]] if name is not None]
        failing = [check for script, its_course in several for check in its_course[1]
                   if not check[4] and rule_sort(script, check) == "unique"]
        self.assertLessEqual(len(names) - len({*names}), len(failing))

    def gone(self, script, modes, path, **wanted):
        """That a path is gone from the tables that are told; returns them."""
        self.assertIn(path, paths(script, modes))
        self.held(can_go(script, modes, path), True)
        tables = tables_on(script, modes, path)
        self.assertEqual(run(script, tables, modes)[0], path)
        several = [(script, course(script, modes, path))]
        self.look_at(several, [], tables)
        self.assertIsNone(bar(several))
        return tables

    def barred(self, script, modes, path, word=None):
        """That a path is gone by no run; returns the bar."""
        self.assertNotIn(path, paths(script, modes))
        self.held(can_go(script, modes, path), False)
        self.assertIsNone(tables_on(script, modes, path))
        several = [(script, course(script, modes, path))]
        return self.is_barred(several, word)

    def is_barred(self, several, word=None):
        self.assertIsNone(tables_for(several))
        told = bar(several)
        self.held(is_bar(several, told), True)
        falls, reason = told
        self.held(are_falls(several, falls), True)
        fallen = [kind for kind, _ in falls]
        kinds = row_kinds(several[0][0].schema, looks_of(several), most=400)
        self.assertTrue(is_in_the_way(several, [kind for kind in kinds if kind not in fallen], reason), told)
        if word is not None:
            self.assertEqual(reason[0], word)
        return told


class SpotsTest(PathsCase):
    """Each sort of spot, and paths that lack it."""

    def test_row(self):
        script = simple([("k", "check", "t", U)], [("change", "t", [("none", "x")], {"m": "v"})])
        tables = self.gone(script, {}, ((), ((0,), "k")))
        self.assertEqual(len(tables), 3)
        self.gone(script, {}, ((), None))
        script = simple([("k", "check", "t", U)], [("change", "t", [("none", "x")], {"m": "u"})])
        self.barred(script, {}, ((), ((0,), "k")), "spot")

    def test_new(self):
        put = ("put", "h", "t", {"m": "v", "x": None})
        script = simple([("k", "check", "t", U)], [put])
        self.assertEqual(len(self.gone(script, {}, ((), ((0,), "k")))), 0)
        self.barred(script, {}, ((), None), "new")
        # A new row meets a rule that is not to hold.
        script = simple([("s", "some", "t", U)], [("put", "h", "t", {"m": "u", "x": None}), TAKE_ALL])
        self.barred(script, {}, ((), ((0,), "s")))
        self.gone(script, {}, ((), ((1,), "s")))
        # Two new rows with one name.
        both = [("put", handle, "t", {"m": "u", "x": None, "a": ("word", "w")}) for handle in "hi"]
        script = simple([("k", "unique", "t", "a")], both, a=("tag",))
        self.gone(script, {}, ((), ((1,), "k")))
        self.gone(script, {}, ((), ((0,), "k")))
        self.barred(script, {}, ((), None), "new")

    def test_linked(self):
        script = simple([("k", "link", "t", "x", [], U)], [("change", "t", [("none", "x")], {"m": "v"})])
        tables = self.gone(script, {}, ((), ((0,), "k")))
        self.assertEqual(len(tables) % 3, 1)
        self.gone(script, {}, ((), None))
        # Those that would do were linked badly at the start.
        script = simple([("k", "link", "t", "x", [], U)], [("change", "t", [("is", "m", ["v"])], {"x": None})])
        self.barred(script, {}, ((), ((0,), "k")), "spot")
        # Within, and not behind: rows change one after another.
        rules = [("k", "link", "t", "x", U, U), ("l", "check", "t", [("not", ("none", "x"))])]
        script = simple(rules, [("change", "t", [], {"m": "v"})])
        self.gone(script, {"k": "each"}, ((), ((0,), "k")))
        self.barred(script, {}, ((), ((0,), "k")), "spot")

    def test_kinds_that_fall_later(self):
        """Whoever links elsewhere breaks a check behind the one that is to break."""
        body = [("try", [("change", "t", [("none", "x")], {"m": "v"})], ["k"], []),
                ("change", "t", [("not", ("none", "x"))], {"n": "b"})]
        rules = [("k", "link", "t", "x", [], U), ("l", "check", "t", [("is", "n", ["a"])])]
        script = simple(rules, body, n=("mark", ["a", "b"]))
        failed = (((0, 0, 0), "k"),)
        self.barred(script, {}, (failed, None), "spot")
        self.gone(script, {}, (failed, ((1,), "l")))
        self.assertEqual(paths(script, {}), [((), None), ((), ((1,), "l")), (failed, ((1,), "l"))])
        # Or the row behind the link does.
        body[1] = ("change", "t", [("none", "x")], {"n": "b"})
        script = simple(rules, body, n=("mark", ["a", "b"]))
        self.barred(script, {}, (failed, None), "spot")
        self.gone(script, {}, (failed, ((1,), "l")))

    def test_shared(self):
        tags = {"a": ("tag",), "b": ("tag",)}
        script = simple([("k", "unique", "t", "a")], [("change", "t", [("none", "x")], {"a": ("field", "b")})], **tags)
        tables = self.gone(script, {}, ((), ((0,), "k")))
        self.assertEqual(len(tables.names()), sum(kind_of(tables, [], ident)[3].count(True) for ident in tables.ids()) - 1)
        self.gone(script, {}, ((), None))
        both = [("k", "unique", "t", "a"), ("l", "unique", "t", "b")]
        swap = [("change", "t", [], {"a": ("field", "b"), "b": ("field", "a")})]
        script = simple(both, swap, **tags)
        self.barred(script, {}, ((), ((0,), "k")), "spot")
        # One of two rows is changed, and the other one not so far.
        self.gone(script, {"k": "each"}, ((), ((0,), "k")))

    def test_worded(self):
        put = ("put", "h", "t", {"m": "u", "x": None, "a": ("word", "w")})
        script = simple([("k", "unique", "t", "a")], [put], a=("tag",))
        tables = self.gone(script, {}, ((), ((0,), "k")))
        self.assertIn("w", tables.names())
        self.assertNotIn("w", self.gone(script, {}, ((), None)).names())
        clear = ("change", "t", [("not", ("none", "a"))], {"a": None})
        script = simple([("k", "unique", "t", "a")], [clear, put], a=("tag",))
        self.barred(script, {}, ((), ((1,), "k")), "spot")
        own = (*put[:3], {**put[3], "a": ("own",)})
        script = simple([("k", "unique", "t", "a")], [own], a=("tag",))
        self.barred(script, {}, ((), ((0,), "k")), "spot")
        # The name would break a check that passes ahead of it.
        script = simple([("k", "unique", "t", "a")], [put, ("switch", ["k"], "now")], a=("tag",))
        self.barred(script, {}, ((), ((1,), "k")), "spot")
        self.gone(script, {"k": "late"}, ((), ((1,), "k")))

    def test_some(self):
        script = simple([("s", "some", "t", U)], [("change", "t", [("none", "x")], {"m": "v"})])
        tables = self.gone(script, {}, ((), ((0,), "s")))
        self.assertEqual({kind_of(tables, [], ident)[2] for ident in tables.ids()}, {(NONE,)})
        self.gone(script, {}, ((), None))
        script = simple([("s", "some", "t", U)], [("change", "t", [], {"m": "v"})])
        self.barred(script, {}, ((), None), "some")
        script = simple([("s", "some", "t", U)], [("change", "t", [], {"m": "u"})])
        self.barred(script, {}, ((), ((0,), "s")), "some")

    def test_rules_against_one_another(self):
        """No tables are legal."""
        script = simple([("k", "check", "t", U), ("s", "some", "t", V)], [])
        self.barred(script, {}, ((), None), "some")
        self.assertEqual(paths(script, {}), [])

    def test_many_failures_on_a_path(self):
        rules = [("k", "link", "t", "x", [], U), ("l", "check", "t", [("not", ("is", "n", ["b"]))]), ("s", "some", "t", [])]
        body = [("try", [("change", "t", [("is", "n", [word])], {"m": "v"})], ["k", "s"], []) for word in "acd"]
        body += [("try", [("change", "t", [("is", "n", ["a"])], {"n": "b"})], ["l"], []), ("try", [("take", "t", [])], ["s"], [])]
        script = simple(rules, body, n=("mark", ["a", "b", "c", "d"]))
        path = (tuple(((at, 0, 0), rule) for at, rule in enumerate("kkkls")), None)
        self.gone(script, {}, path)
        found = paths(script, {})
        # If a change of those with an "a" fails, there are some; so "l" fails too.
        self.assertEqual(len(found), 12)
        for path in found:
            self.gone(script, {}, path)


TAKE_ALL = ("take", "t", [])


class TablesForTest(PathsCase):
    def wide(self, body, rules=(), *tags):
        """A schema with 64 kinds for each sort of link, and as many again for each tag."""
        words = ["a", "b", "c", "d"]
        fields = {"m": ("mark", words), "n": ("mark", words), "x": ("link", "t"), **{tag: ("tag",) for tag in tags}}
        return Script(Schema({"t": fields}, rules), body)

    def check(self, several, kinds):
        before = list(kinds)
        tables = tables_for(several, kinds)
        self.look_at(several, kinds, tables)
        self.assertEqual(tables_for(several, tuple(kinds)), tables)
        self.assertEqual(kinds, before)
        return tables

    def test_kinds(self):
        script = Script(tree(), [END])
        for path in [((), None), ((), ((0,), "whole"))]:
            several = [(script, course(script, {}, path))]
            kept = supports(several)[0]
            for kinds in [[], kept[:1], kept[1:4], kept, kept[2:3] * 3]:
                self.check(several, kinds)
        self.assertEqual(len(tables_for(several, kinds=kept)), 31)

    def test_full_behind_too_many(self):
        script = self.wide([])
        several = [(script, ([], []))]
        kept = supports(several)[0]
        self.assertEqual(len(kept), 64)
        self.assertEqual(len(self.check(several, kept)), 192)
        script = self.wide([], (), "a")
        several = [(script, ([], []))]
        kept = [kind for kind in supports(several)[0] if kind[2] in [(NONE,), (SELF,)]]
        self.assertEqual(len(kept), 64)
        self.refused(TooMany, "limit", 127, lambda: tables_for(several, kept, most=127))
        self.assertEqual(len(tables_for(several, kept, most=128)), 192)
        more = [kind for kind in supports(several)[0] if kind[2] in [(NONE,), (SELF,), (GONE,)]]
        self.assertEqual(len(self.check(several, more[:65])), 195)
        self.refused(Full, "limit", 196, tables_for, several, more[:66])
        self.refused(Full, "limit", 196, tables_for, several, tuple(more))
        self.refused(TooMany, "limit", 100, lambda: tables_for(several, more, most=100))

    def test_spots_where_there_is_no_room(self):
        """With 65 kinds there is no room for further rows: those that are there have the spots."""
        turn = [("change", "t", [("is", "m", ["a"])], {"m": "b"})]
        rules = [("k", "link", "t", "x", [], [("not", ("is", "m", ["b"]))]), ("l", "unique", "t", "p"),
                 ("c", "link", "t", "x", [], [("not", ("is", "n", ["b"]))])]
        copies = [("change", "t", [("none", "x")], {"p": ("field", "q")})]
        other = [("change", "t", [("is", "n", ["a"])], {"n": "b"})]
        put = [("put", "h", "t", {"m": "c", "n": "c", "x": None, "p": ("word", "w"), "q": None})]
        bodies = [(turn, (), "k"), (copies, (), "l"), (put, (), "l"), ([("try", turn, ["k"], []), *put], (((0, 0, 0), "k"),), "l"),
                  ([("try", turn, ["k"], []), ("try", other, ["c"], []), *copies], (((0, 0, 0), "k"), ((1, 0, 0), "c")), "l")]
        for body, caught, rule in bodies:
            script = self.wide(body, rules, "p", "q")
            last = (len(body) - 1,)
            several = [(script, course(script, {}, (caught, (last, rule))))]
            kept = supports(several, most=400)[0]
            kinds = [kind for kind in kept if kind[2] in [(NONE,), (SELF,), (OTHER,)] and kind[3][0]]
            chance = random.Random(len(body))
            for _ in range(3):
                some = sorted(chance.sample(kinds, 50))
                tables = tables_for(several, some, most=400)
                self.look_at(several, some, tables)
                self.assertLessEqual(len(tables), 196)
            near = [kind for kind in kept if kind[2] in [(NONE,), (SELF,)]]
            self.full_house(several, near, 65, [195, 196])

    def full_house(self, several, kinds, many, rows):
        """That there are so many rows with spots in them, if just so many kinds are needed."""
        tables = tables_for(several, kinds[:many], most=400)
        self.look_at(several, kinds[:many], tables)
        self.assertIn(len(tables), rows)

    def test_just_65_kinds_and_spots(self):
        rules = [("l", "unique", "t", "p")]
        copies = [("change", "t", [("none", "x")], {"p": ("field", "q")})]
        script = self.wide(copies, rules, "p", "q")
        several = [(script, course(script, {}, ((), ((0,), "l"))))]
        kept = supports(several, most=400)[0]
        kinds = [kind for kind in kept if kind[2] == (NONE,)] + [kind for kind in kept if kind[2] == (SELF,)]
        for many, rows in [(64, [194]), (65, [195])]:
            self.full_house(several, kinds, many, rows)
        self.refused(Full, "limit", 196, lambda: tables_for(several, kinds[:66], most=400))

    def test_two_rows_of_one_kind(self):
        """They have one name, and there is no room for further ones."""
        turn = [("change", "t", [("none", "x"), ("is", "m", ["a"]), ("is", "n", ["a"])], {"p": ("field", "q")})]
        script = self.wide(turn, [("l", "unique", "t", "p")], "p", "q")
        several = [(script, course(script, {}, ((), ((0,), "l"))))]
        kinds = [kind for kind in supports(several, most=400)[0] if kind[2] != (OTHER,) and not kind[3][0]]
        one = ("t", ("a", "a"), (NONE,), (False, True))
        kinds = [one] + [kind for kind in kinds if kind != one]
        for many, rows in [(1, [5]), (64, [194]), (65, [195])]:
            self.full_house(several, kinds, many, rows)
            tables = tables_for(several, kinds[:many], most=400)
            self.assertEqual(run(script, tables, {})[0], ((), ((0,), "l")))

    def test_four_links_of_one_kind(self):
        """Each leads to a row of another kind; of three rows there are not enough."""
        body = [("try", [("change", "t", [("is", "m", ["a"]), ("is", "n", [word])], {"m": "d"})], ["k"], []) for word in "abcd"]
        script = self.wide(body, [("k", "link", "t", "x", [], [("not", ("is", "m", ["d"]))])], "p")
        path = (tuple(((at, 0, 0), "k") for at in range(4)), None)
        several = [(script, course(script, {}, path))]
        kept = supports(several)[0]
        one = ("t", ("b", "b"), (OTHER,), (False,))
        others = [("t", ("a", word), (NONE,), (False,)) for word in "abcd"]
        kinds = needed(several, kept, [one, *others])
        # Those that would have spots of their own are left out.
        least = {NONE: "a", SELF: "b", OTHER: "c"}
        kinds += [kind for kind in kept if kind[1][0] >= least[kind[2][0]] and kind not in kinds]
        self.assertEqual(len(kinds), 65)
        for many, rows in [(len(needed(several, kept, [one, *others])), None), (64, [196]), (65, [196])]:
            self.full_house(several, kinds, many, rows or [3 * many + 4])
            tables = tables_for(several, kinds[:many])
            self.assertEqual(run(script, tables, {})[0], path)
            ends = [tables.target("t", ident, "x") for ident in tables.ids() if kind_of(tables, [], ident) == one]
            self.assertEqual({kind_of(tables, [], ident) for ident in ends} & {*others}, {*others})

    def test_none(self):
        script = Script(tree(), [TAKE])
        self.assertIsNone(tables_for([(script, course(script, {}, ((), None)))]))
        self.refused(TooMany, "limit", 15, lambda: tables_for([(script, course(script, {}, ((), None)))], most=15))

    def test_several_courses(self):
        """Tables from which two scripts go a path each."""
        schema = Schema({"t": {"m": ("mark", ["u", "v"]), "x": ("link", "t"), "a": ("tag",)}}, [
            ("k", "link", "t", "x", [], U), ("s", "some", "t", V), ("l", "unique", "t", "a")])
        one = Script(schema, [("change", "t", [("none", "x")], {"m": "v"})])
        two = Script(schema, [("put", "h", "t", {"m": "u", "x": None, "a": ("word", "w")}), ("change", "t", [], {"m": "u"})])
        ends = [(first, second) for first in [None, ((0,), "k")] for second in [None, ((0,), "l"), ((1,), "s")]]
        for first, second in ends:
            several = [(one, course(one, {}, ((), first))), (two, course(two, {}, ((), second)))]
            tables = tables_for(several)
            if second is None:
                self.is_barred(several, "some")
            else:
                self.assertEqual([run(one, tables, {})[0], run(two, tables, {})[0]], [((), first), ((), second)])
                self.assertIsNone(bar(several))
                self.look_at(several, [], tables)
        # The one is barred by the other.
        three = Script(schema, [("change", "t", [("none", "x")], {"m": "u"})])
        late = {"s": "late"}
        several = [(one, course(one, late, ((), None))), (three, course(three, late, ((), ((), "s"))))]
        self.assertEqual([run(one, tables_for(several), late)[0][1], run(three, tables_for(several), late)[0][1]], [None, ((), "s")])


    def test_puts_in_another_order(self):
        """Two scripts put the same new rows, with words that are alike, and link to them: while they are there or not."""
        schema = Schema({"t": {"m": ("mark", ["u", "v"]), "x": ("link", "t"), "a": ("tag",)}}, [
            ("k", "link", "t", "x", [], []), ("l", "unique", "t", "a")])
        h, i = [("put", handle, "t", {"m": "u", "x": None, "a": ("word", "w")}) for handle in "hi"]
        link, free = ("change", "t", V, {"x": ("new", "h")}), ("change", "t", [("row", "h")], {"a": None})
        gone = ("take", "t", [("row", "h")])
        bodies = [[h, free, link, i], [i, free, h, link], [h, link, gone, i], [h, gone, i, link]]
        wanted = {(0, 0): ((0,), "l"), (0, 1): None, (1, 0): ((0,), "l"), (1, 1): ((2,), "l"), (2, 0): ((0,), "l"), (2, 1): None,
                  (2, 2): ((2,), "k"), (3, 0): ((0,), "l"), (3, 1): None, (3, 2): ((3,), "k")}
        scripts = [Script(schema, body) for body in bodies]
        for at, script in enumerate(scripts):
            ends = [end for (number, _), end in wanted.items() if number == at]
            self.assertEqual({path[1] for path in paths(script, {})}, {*ends})
            for end in ends:
                self.gone(script, {}, ((), end))
        for (one, _), end in wanted.items():
            for (other, _), its_end in wanted.items():
                if end is None or its_end is None or (end[1], its_end[1]) != ("l", "l"):
                    several = [(scripts[one], course(scripts[one], {}, ((), end))), (scripts[other], course(scripts[other], {}, ((), its_end)))]
                    tables = tables_for(several)
                    if tables is None:
                        self.is_barred(several)
                    else:
                        self.assertEqual([run(scripts[at], tables, {})[0][1] for at in [one, other]], [end, its_end])
                        self.look_at(several, [], tables)


class FitsTest(PathsCase):
    def setUp(self):
        self.script = Script(tree(), [END, CUT])
        self.pass_all = [(self.script, course(self.script, {}, ((), None)))]
        self.fail = [(self.script, course(self.script, {}, ((), ((0,), "whole"))))]

    def test_legal_and_fitting(self):
        wanted = [({"a": ("open",)}, True, False), ({"a": ("open",), "b": ("open", "a")}, False, True), ({"a": ("open", "a")}, True, False),
                  ({"a": ("done",), "b": ("open", "c"), "c": ("open", "c")}, True, False),
                  ({}, False, False), ({"a": ("done",), "b": ("open", "a")}, False, False), ({"a": ("open", "nobody")}, False, False),
                  ({"a": ("open", None, "x"), "b": ("open", None, "x")}, False, False)]
        for rows, passes, fails in wanted:
            tables = tasks(rows)
            self.held(fits(self.pass_all, tables), passes)
            self.held(fits(self.fail, tables), fails)
            self.held(fits(self.pass_all + self.fail, tables), False)
            self.held(fits(self.fail + self.fail, tables), fails)
            self.assertEqual(tables, tasks(rows))

    def test_no_starting_tables(self):
        """Starting tables have nothing with "+"."""
        for rows in [{"+a": ("open",)}, {"a": ("open", None, "+a.code")}, {"a": ("open", "+b"), "b": ()}]:
            tables = tasks(rows, [])
            script = Script(tables.schema, [])
            self.held(fits([(script, ([], []))], tables), False)
        self.held(fits([(Script(tree([]), []), ([], []))], tasks({"a": ("open", "b", "c")}, [])), True)

    def test_no_room(self):
        put = ("put", "h", "task", task())
        script = Script(tree(), [put])
        several = [(script, course(script, {}, ((), None)))]
        tables = many_tasks(199)
        self.held(fits(several, tables), True)
        tables["task", "more"] = task()
        self.held(fits(several, tables), False)

    def test_within(self):
        rules = [("k", "link", "t", "x", U, U)]
        script = simple(rules, [("change", "t", [], {"m": "v"})])
        tables = Tables(script.schema)
        tables["t", "a"] = {"m": "u", "x": None}
        tables["t", "b"] = {"m": "u", "x": "a"}
        for way in ["within", "behind"]:
            for passed in [True, False]:
                several = [(script, open_course(script, [(1, (0,), "k", way, passed)]))]
                self.held(fits(several, tables), passed == (way == "behind"))

    def test_drawn(self):
        for seed in range(150):
            chance = random.Random(seed)
            schema, script, modes = draw_lively(chance)
            tables = draw_tables(chance, schema)
            path = chance.choice(paths_by_form(script, modes))
            several = [(script, course(script, modes, path))]
            self.held(fits(several, tables), is_legal(tables) and run(script, tables, modes)[0] == path)
            if is_legal(tables):
                self.held(fits([(script, course(script, modes, run(script, tables, modes)[0]))], tables), True)


class IsBarTest(PathsCase):
    def setUp(self):
        script = looking()
        self.script = script
        passed, failed = (1, (0,), "l", "behind", True), (1, (0,), "l", "behind", False)
        more = [(1, (0,), "s", "behind", True), failed, (2, (1,), "k", "behind", False)]
        self.several = [(script, open_course(script, [passed])), (script, open_course(script, more))]
        self.falls, self.reason = bar(self.several)

    def test_any_value(self):
        self.assertEqual(self.reason, ("spot", 1, (1, (0,), "l", "behind", False)))
        self.held(is_bar(self.several, (self.falls, self.reason)), True)
        falls, reason = self.falls, self.reason
        for thing in [*ODD, deep(29), [falls, reason], (falls,), (falls, reason, reason), (tuple(falls), reason), (reason, falls), (falls, None),
                      (None, reason), (falls, [*reason]), (falls, ()), (falls, reason[:2]), (falls, (*reason, "h")), (falls, (*reason, 1, 2)),
                      (falls, {}), (falls, "abc"), (falls, "abcd"), (falls[0], reason)]:
            self.held(is_bar(self.several, thing), False)

    def test_wrong_in_one_thing(self):
        word, number, check = self.reason
        for thing in [*ODD, "some", "new", "row", "spots"]:
            self.held(is_bar(self.several, (self.falls, (thing, number, check))), False)
        for thing in [*ODD, 0, 2, -1, True]:
            if repr(thing) != "1":
                self.held(is_bar(self.several, (self.falls, (word, thing, check))), False)
        for thing in [*ODD, (*check[:4], True), (*check[:4], 0), (True, *check[1:]), (1, (False,), *check[2:]), list(check),
                      (1, (0,), "s", "behind", True), (1, (0,), "l", "within", False), check[:4]]:
            self.held(is_bar(self.several, (self.falls, (word, number, thing))), False)
        # The falls must be right, too; those that nothing hangs on may be left out.
        self.assertIn("at", [reason[0] for _, reason in self.falls])
        self.held(is_bar(self.several, (self.falls[::-1], self.reason)), False)
        self.held(is_bar(self.several, (self.falls, ("spot", 1, (2, (1,), "k", "behind", False)))), True)
        self.held(is_bar(self.several, ([], ("spot", 1, (2, (1,), "k", "behind", False)))), True)
        self.held(is_bar(self.several, (self.falls + self.falls[:1], self.reason)), False)
        for at in range(len(self.falls)):
            left = self.falls[:at] + self.falls[at + 1:]
            kinds = [kind for kind in row_kinds(self.script.schema, looks_of(self.several), most=400)
                     if kind not in [fall[0] for fall in left]]
            right = are_falls(self.several, left) and is_in_the_way(self.several, kinds, self.reason)
            self.held(is_bar(self.several, (left, self.reason)), right)
        self.held(is_bar(self.several, ([], self.reason)), False)

    def test_reasons_of_others(self):
        """Each reason beside each check: right just as the document has it."""
        put = ("put", "h", "t", {"m": "v", "x": None})
        rules = [("k", "check", "t", U), ("s", "some", "t", V), ("r", "some", "t", [("is", "m", ["u"]), ("none", "x")])]
        script = simple(rules, [put, ("change", "t", [("row", "h")], {"m": "u"}), ("take", "t", [])])
        events = [(at + 1, (at,), rule, way, passed) for at in range(3) for rule in "ksr" for way in ["within", "behind"]
                  for passed in [True, False]]
        several = [(script, open_course(script, events))]
        kinds, answers = row_kinds(script.schema, []), []
        for check in checks_of(*several[0]):
            reasons = [(word, 0, check) for word in ["new", "some", "spot"]]
            for reason in [*reasons, *[(*reason, "h") for reason in reasons]]:
                awaited = (len(reason) == 4) == (reason[0] == "new") and is_in_the_way(several, kinds, reason)
                self.held(is_bar(several, ([], reason)), awaited)
                answers.append((reason[0], awaited))
        self.assertEqual(len({*answers}), 6)

    def test_new(self):
        put = ("put", "h", "t", {"m": "v", "x": None, "a": ("word", "w")})
        rules = [("k", "check", "t", U), ("l", "unique", "t", "a"), ("s", "some", "t", V)]
        script = simple(rules, [put, (*put[:1], "i", *put[2:])], a=("tag",))
        events = [(1, (0,), "k", "behind", True), (2, (1,), "l", "behind", True), (2, (1,), "s", "behind", False)]
        several = [(script, open_course(script, events))]
        for check, handles in zip(events, ["h", "hi", "hi"]):
            for handle in ["h", "i"]:
                right = handle in handles
                self.held(is_bar(several, ([], ("new", 0, check, handle))), right)
                self.held(is_in_the_way(several, [], ("new", 0, check, handle)), right)
                for passed in [not check[4], int(check[4])]:
                    self.held(is_bar(several, ([], ("new", 0, (*check[:4], passed), handle))), False)
            for handle in [*ODD, "j", "m"]:
                self.held(is_bar(several, ([], ("new", 0, check, handle))), False)
            self.held(is_bar(several, ([], ("new", 0, check))), False)

    def test_some(self):
        rules = [("k", "check", "t", U), ("s", "some", "t", [("none", "x")]), ("r", "some", "t", [])]
        script = simple(rules, [("change", "t", [("none", "x")], {"m": "v"}), ("take", "t", [])])
        first, last = (1, (0,), "k", "behind", True), (2, (1,), "r", "behind", True)
        some = (0, (), "s", "behind", True)
        several = [(script, open_course(script, [first, last]))]
        self.held(is_bar(several, ([], ("some", 0, last))), True)
        self.held(is_bar(several, ([], ("some", 0, some))), False)
        falls = [(kind, ("breaks", 0, first)) for kind in row_kinds(script.schema, []) if kind[2] == (NONE,)]
        self.held(is_bar(several, (falls, ("some", 0, some))), True)
        for at in range(len(falls)):
            self.held(is_bar(several, (falls[:at] + falls[at + 1:], ("some", 0, some))), falls[at][0][2] != (NONE,))
        self.held(is_bar(several, ([], ("some", 0, (*last[:4], False)))), False)
        self.held(is_bar(several, ([], ("spot", 0, last))), False)
        self.held(is_bar(several, (falls, ("some", 0, first))), False)
        # A new row meets it.
        put = ("put", "h", "t", {"m": "u", "x": None})
        script = simple(rules, [put, ("change", "t", [("none", "x")], {"m": "v"}), ("take", "t", [("not", ("row", "h"))])])
        several = [(script, open_course(script, [(3, (2,), "r", "behind", True)]))]
        self.held(is_bar(several, ([], ("some", 0, (3, (2,), "r", "behind", True)))), False)
        self.assertIsNone(bar(several))


class PathsTest(PathsCase):
    def test_the_example(self):
        script = Script(tree(), [("change", "task", [("none", "boss")], {"state": "done"})])
        self.assertEqual(paths(script, {}), [((), None), ((), ((0,), "whole"))])

    def test_too_many(self):
        words = ["a", "b", "c", "d"]
        rules = [("k" + word, "check", "t", [("not", ("is", "m", [word])), ("not", ("is", "n", [word]))]) for word in "bcd"]
        fields = {"m": ("mark", words), "n": ("mark", words), "t": ("tag",), "x": ("link", "t")}
        turns = [("try", [("change", "t", [("none", "x")], {"m": word})], ["k" + word], []) for word in "bcd"]
        turns += [("try", [("change", "t", [("not", ("none", "t"))], {"n": word})], ["k" + word], []) for word in "bcd"]
        script = Script(Schema({"t": fields}, rules), turns)
        found = paths(script, {}, most=400)
        many = len(found)
        self.assertEqual(many, 4)
        self.refused(TooMany, "limit", 127, lambda: paths(script, {}, most=127))
        script = simple([(name, "some", "t", [("is", "n", [word])]) for name, word in zip("pqrs", words)],
                        [("try", [("take", "t", [("is", "n", [word])])], [name], []) for name, word in zip("pqrs", words)], n=("mark", words))
        found = paths(script, {})
        self.assertEqual(len(found), 1)
        script = simple([("s", "some", "t", [])], [
            ("try", [("take", "t", [("is", "n", [word]), ("is", "m", [other])])], ["s"], []) for word in words for other in "uv"][:6],
            n=("mark", words))
        found = paths(script, {})
        self.assertEqual(len(found), len({*found}))
        self.assertEqual(paths(script, {}, most=32), found)

    def many_paths(self, many):
        """A script by which each of some marks can fail by itself."""
        words = ["a", "b", "c", "d"]
        rules = [("k", "check", "t", [("not", ("is", "m", ["d"])), ("not", ("is", "n", ["d"]))])]
        fields = {"m": ("mark", words), "n": ("mark", words)}
        turns = [("change", "t", [("is", "m", [word]), ("is", "n", [other])], {"m": "d"}) for word in "abc" for other in "abc"]
        return Script(Schema({"t": fields}, rules), [("try", [turn], ["k"], []) for turn in turns[:many]])

    def test_many(self):
        for many in [0, 1, 3, 6]:
            script = self.many_paths(many)
            found = paths(script, {})
            self.assertEqual(len(found), 2 ** many)
            if many > 4:
                self.assertEqual(len(paths(script, {}, most=64)), 64)
                self.refused(TooMany, "limit", 63, lambda: paths(script, {}, most=63))
                self.refused(TooMany, "limit", 15, lambda: paths(script, {}, most=15))

    def test_order(self):
        for seed in range(300):
            script, modes = draw_lively(random.Random(seed))[1:]
            if how_many(script.schema, script.looks()) > 100:
                continue
            found = paths(script, modes)
            told = {path: [event[4] for event in course(script, modes, path)[1]] for path in found}
            for one, other in itertools.combinations(found, 2):
                parted = [pair for pair in zip(told[one], told[other]) if pair[0] != pair[1]]
                self.assertEqual(parted[0], (True, False))

    def test_modes(self):
        script = Script(tree(), [END])
        self.assertEqual(paths(script, {"whole": "late"}), [((), None), ((), ((), "whole"))])
        self.assertEqual(paths(script, {"whole": "each"}), paths(script, {}))
        script = Script(tree(), [("switch", ["whole"], "late"), END, CUT])
        self.assertEqual(paths(script, {}), [((), None)])
        self.assertEqual(paths(Script(tree(), []), {}), [((), None)])
        self.assertEqual(paths(Script(tree(), [TAKE]), {}), [((), ((0,), "some"))])

    def test_paths_that_are_none(self):
        """A path of another form is gone by no run."""
        script = Script(tree(), [END])
        for path in [((), ((0,), "code")), ((((0,), "whole"),), None), ((), ((), "whole"))]:
            self.held(can_go(script, {}, path), False)
            self.assertIsNone(tables_on(script, {}, path))

    def test_too_many_kinds(self):
        script = Script(tree(), [END])
        path = ((), None)
        several = [(script, course(script, {}, path))]
        calls = [lambda most: can_go(script, {}, path, most=most), lambda most: tables_on(script, {}, path, most=most),
                 lambda most: bar(several, most=most), lambda most: tables_for(several, most=most),
                 lambda most: paths(script, {}, most=most)]
        for call in calls:
            call(16)
            self.refused(TooMany, "limit", 15, call, 15)

    def test_two_hundred_kinds(self):
        words = ["a", "b", "c", "d"]
        wide = {"m": ("mark", words), "n": ("mark", words), "t": ("tag",), "x": ("link", "t")}
        two = {"m": ("mark", words), "n": ("mark", words[:3]), "t": ("tag",), "x": ("link", "t")}
        path = ((), None)
        calls = [lambda script: can_go(script, {}, path), lambda script: tables_on(script, {}, path), lambda script: paths(script, {}),
                 lambda script: bar([(script, ([], []))]), lambda script: tables_for([(script, ([], []))])]
        for call in calls:
            call(Script(Schema({"t": wide, "s": two}), []))
            self.refused(TooMany, "limit", 200, call, Script(Schema({"t": wide, "s": two, "r": {}}), []))

    def test_looks(self):
        script = looking()
        self.gone(script, {}, ((), ((0,), "l")))
        self.gone(script, {}, ((), None))
        # All makers are u: so whoever looks at one sees u.
        schema = script.schema
        other = Script(schema, [("change", "t", [("at", "x", [("is", "n", ["v"])])], {"m": "v"})])
        self.assertEqual(paths(other, {}), [((), None)])

    def test_results_are_new(self):
        script = Script(tree(), [END])
        modes = {"whole": "late"}
        paths(script, modes).append("x")
        self.assertEqual([len(paths(script, modes)), modes], [2, {"whole": "late"}])
        one = tables_on(script, modes, ((), None))
        one.drop("task", one.ids()[0])
        self.assertNotEqual(tables_on(script, modes, ((), None)), one)


class DrawnTest(PathsCase):
    """Guarantees 5 and 6."""

    def draw(self, seed):
        chance = random.Random(seed)
        if seed % 4:
            schema, script, modes = draw_lively(chance)
        else:
            schema = draw_schema(chance, 3, 3, 4)
            script, modes = draw_script(chance, schema, 2), draw_modes(chance, schema)
        return chance, schema, script, modes

    def test_runs_go_the_paths_that_are_told(self):
        many = 0
        for seed in range(500):
            chance, schema, script, modes = self.draw(seed)
            if how_many(schema, script.looks()) > 100:
                continue
            found = paths(script, modes)
            many += len(found)
            for _ in range(4):
                tables = draw_legal(chance, schema, 6, 10)
                if tables is not None:
                    self.assertIn(run(script, tables, modes)[0], found)
        self.assertGreater(many, 500)

    def test_each_path_by_form(self):
        words = []
        for seed in range(250):
            chance, schema, script, modes = self.draw(seed)
            if how_many(schema, script.looks()) > 60:
                continue
            before = [Script(schema, script.body()), copy.deepcopy(modes)]
            found, forms = paths(script, modes), paths_by_form(script, modes)
            self.assertEqual([path for path in found if path not in forms], [])
            for path in found[:6]:
                self.gone(script, modes, path)
            others = [path for path in forms if path not in found]
            for path in chance.sample(others, min(6, len(others))):
                words.append(self.barred(script, modes, path)[1][0])
            self.assertEqual([script, modes], before)
        self.assertEqual({*words}, {"new", "some", "spot"})

    def test_two_courses(self):
        """Of two scripts: tables from which both go their paths, or a bar."""
        told = []
        for seed in range(250):
            chance, schema, script, modes = self.draw(seed)
            other = Script(schema, script.body()[::-1]) if script.is_plain() else script
            if how_many(schema, script.looks()) > 60:
                continue
            ways = [chance.choice(paths(one, modes) + paths_by_form(one, modes)[:2]) for one in [script, other]]
            several = [(one, course(one, modes, path)) for one, path in zip([script, other], ways)]
            failing = [event for one, its_course in several for event in its_course[1]
                       if not event[4] and rule_sort(script, event) == "unique"]
            if len(failing) > 1:
                continue
            tables = tables_for(several)
            told.append(tables is None)
            if tables is None:
                self.is_barred(several)
            else:
                self.assertEqual([run(one, tables, modes)[0] for one in [script, other]], ways)
                self.look_at(several, [], tables)
        self.assertEqual({*told}, {True, False})

    def test_side_by_side(self):
        """Guarantee 8: tables that are told, twice side by side, go the same path."""
        seen = 0
        for seed in range(200):
            _, schema, script, modes = self.draw(seed)
            if how_many(schema, script.looks()) > 60:
                continue
            for path in paths(script, modes)[:3]:
                tables, other = tables_on(script, modes, path), Tables(schema)
                words = [name for name in tables.names() if name in ["x", "y"]]
                for table in schema.tables():
                    for ident, row in tables.rows(table).items():
                        others = {field: value and value + "o" for field, value in row.items() if field not in schema.marks(table)}
                        other[table, ident + "o"] = {**row, **others}
                if not words and run(script, other, modes)[0] == path:
                    self.assertEqual(run(script, tables.joined(other), modes)[0], path)
                    seen += 1
        self.assertGreater(seen, 100)


if __name__ == "__main__":
    unittest.main()
