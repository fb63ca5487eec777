"""Point 62: which rows break which checks of a course."""

import random
import unittest

from endchecks.doing import done, spots_within
from endchecks.fits import (
    breaks, breaks_first, is_linked_badly, is_linked_well, is_shared_badly, is_shared_well, is_worded_badly, is_worded_well,
    meets_some, new_breaks, new_meets)
from endchecks.rowkinds import kind_of
from endchecks.runs import run
from endchecks.schemas import Schema
from endchecks.scripts import Script
from endchecks.spots import spots
from endchecks.ways import course, open_course
from tests.cases import RaisesCase
from tests.drawn import draw_legal, draw_lively, draw_modes, draw_schema, draw_script

NONE, SELF, GONE, OTHER = ("none",), ("self",), ("gone",), ("other",)
OPEN = [("is", "m", ["u"])]


def tagged(*tags):
    return {tag: ("tag",) for tag in tags}


def item(word, link, *truths):
    return ("t", (word,), (link,), truths)


class Case(RaisesCase):
    """Tests of one table t with a mark m, a link x to itself, and tags."""

    def begin(self, rules, body, *tags):
        fields = {"m": ("mark", ["u", "v"]), "x": ("link", "t"), **tagged(*tags)}
        self.script = Script(Schema({"t": fields, "r": {"y": ("link", "t"), "n": ("tag",)}}, rules), body)
        return self.script

    def check(self, moment, rule, way, passed=True):
        address = () if moment == 0 else (moment - 1,)
        return (moment, address, rule, way, passed)

    def with_check(self, check):
        """The course of a plain script with one check, and this check."""
        return self.script, open_course(self.script, [check]), check

    def breaking(self, moment, rule, way, *kinds):
        """For each kind whether it breaks the check, passed or not."""
        told = []
        for passed in [True, False]:
            at = self.with_check(self.check(moment, rule, way, passed))
            told.append([breaks(*at, kind) for kind in kinds])
            for answer in told[-1]:
                self.assertIsInstance(answer, bool)
        self.assertEqual(told[0], told[1])
        return told[0]


class BreaksTest(Case):
    def test_check(self):
        change = ("change", "t", [("none", "x")], {"m": "v"})
        self.begin([("k", "check", "t", OPEN)], [change])
        kinds = [item("u", NONE), item("u", SELF), item("v", SELF), item("v", NONE), ("r", (), (NONE,), (True,))]
        self.assertEqual(self.breaking(0, "k", "behind", *kinds), [False, False, True, True, False])
        self.assertEqual(self.breaking(1, "k", "behind", *kinds), [True, False, True, True, False])
        self.assertEqual(self.breaking(1, "k", "within", *kinds), [True, False, True, True, False])
        back = ("change", "t", [("none", "x")], {"m": "u"})
        self.begin([("k", "check", "t", OPEN)], [change, back])
        # Within, the row ahead of the statement counts too; behind, it does not.
        self.assertEqual(self.breaking(2, "k", "behind", *kinds), [False, False, True, False, False])
        self.assertEqual(self.breaking(2, "k", "within", *kinds), [True, False, True, True, False])

    def test_rows_that_are_not_there(self):
        self.begin([("k", "check", "t", OPEN)], [("take", "t", [("is", "m", ["v"])])])
        kinds = [item("u", NONE), item("v", NONE)]
        self.assertEqual(self.breaking(1, "k", "behind", *kinds), [False, False])
        self.assertEqual(self.breaking(1, "k", "within", *kinds), [False, True])

    def test_links_of_each_sort(self):
        self.begin([("k", "link", "t", "x", [], OPEN)], [("change", "t", [], {"m": "v"})])
        kinds = [item(word, link) for word in "uv" for link in [NONE, SELF, GONE, OTHER]]
        self.assertEqual(self.breaking(0, "k", "behind", *kinds), [False, False, True, False, False, True, True, False])
        self.assertEqual(self.breaking(1, "k", "behind", *kinds), [False, True, True, False, False, True, True, False])
        self.assertEqual(self.breaking(1, "k", "within", *kinds), [False, True, True, False, False, True, True, False])
        # Only rows that meet the tests count.
        self.begin([("k", "link", "t", "x", OPEN, [])], [("change", "t", [], {"m": "v"})])
        self.assertEqual(self.breaking(0, "k", "behind", *kinds), [False, False, True, False, False, False, False, False])
        self.assertEqual(self.breaking(1, "k", "behind", *kinds), [False] * 8)
        self.assertEqual(self.breaking(1, "k", "within", *kinds), [False, False, True, False, False, False, False, False])

    def test_a_row_that_links_to_itself_is_at_one_stage(self):
        """From u to v: it meets the tests only as u, and there only as u; or there only as v."""
        change = [("change", "t", [], {"m": "v"})]
        self.begin([("k", "link", "t", "x", OPEN, OPEN)], change)
        self.assertEqual(self.breaking(1, "k", "within", item("u", SELF)), [False])
        self.begin([("k", "link", "t", "x", OPEN, [("is", "m", ["v"])])], change)
        self.assertEqual(self.breaking(1, "k", "within", item("u", SELF)), [True])
        self.assertEqual(self.breaking(1, "k", "behind", item("u", SELF)), [False])

    def test_links_that_are_looked_along(self):
        schema = Schema({"t": {"m": ("mark", ["u", "v"]), "x": ("link", "r")}, "r": {"n": ("mark", ["u", "v"]), "y": ("link", "r")}}, [
            ("k", "link", "t", "x", [], [("is", "n", ["u"])]), ("l", "link", "r", "y", [], [])])
        body = [("change", "t", [("at", "x", [("none", "y")])], {"m": "v"}), ("change", "r", [("none", "y")], {"n": "v"}),
                ("take", "r", [("is", "n", ["u"])])]
        self.script = Script(schema, body)
        near = [("r", (word,), (link,), ()) for word in "uv" for link in [NONE, SELF]]
        kinds = [("t", ("u",), (("at", kind),), ()) for kind in near]
        self.assertEqual(self.breaking(0, "k", "behind", *kinds), [False, False, True, True])
        self.assertEqual(self.breaking(2, "k", "behind", *kinds), [True, False, True, True])
        self.assertEqual(self.breaking(2, "k", "within", *kinds), [True, False, True, True])
        self.assertEqual(self.breaking(3, "k", "behind", *kinds), [True, True, True, True])
        # Rows of another table than the rule's, though they are behind its links.
        self.assertEqual(self.breaking(3, "k", "behind", *near), [False] * 4)
        self.assertEqual(self.breaking(3, "l", "behind", *near), [False] * 4)
        self.assertEqual(self.breaking(0, "l", "behind", ("r", ("u",), (GONE,), ())), [True])

    def test_links_to_new_rows_and_to_nobody(self):
        put = ("put", "h", "t", {"m": "v", "x": None})
        to_new = ("change", "t", [("is", "m", ["u"])], {"x": ("new", "h")})
        self.begin([("k", "link", "t", "x", [], OPEN), ("l", "link", "t", "x", [], [])], [
            to_new, put, ("change", "t", [("row", "h")], {"m": "u"}), ("take", "t", [("row", "h")]),
            ("change", "t", [], {"x": None})])
        kinds = [item("u", link) for link in [NONE, SELF, GONE, OTHER]]
        # It is not there yet.
        self.assertEqual(self.breaking(1, "l", "behind", *kinds), [True] * 4)
        self.assertEqual(self.breaking(1, "l", "within", *kinds), [True] * 4)
        self.assertEqual(self.breaking(2, "l", "behind", *kinds), [False] * 4)
        self.assertEqual(self.breaking(2, "l", "within", *kinds), [True] * 4)
        self.assertEqual(self.breaking(2, "k", "behind", *kinds), [True] * 4)
        self.assertEqual(self.breaking(3, "k", "behind", *kinds), [False] * 4)
        self.assertEqual(self.breaking(3, "k", "within", *kinds), [True] * 4)
        # It is there no more, and then the links are None.
        self.assertEqual(self.breaking(4, "l", "behind", *kinds), [True] * 4)
        self.assertEqual(self.breaking(5, "l", "within", *kinds), [True] * 4)
        self.assertEqual(self.breaking(5, "l", "behind", *kinds), [False] * 4)
        # A row that is not changed.
        self.assertEqual(self.breaking(1, "l", "within", item("v", NONE), item("v", GONE)), [False, True])

    def test_links_of_other_fields(self):
        """What a link was at the start decides, in whichever field it is now."""
        fields = {"a": ("link", "t"), "b": ("link", "t")}
        schema = Schema({"t": fields}, [("k", "link", "t", "a", [], [])])
        self.script = Script(schema, [("change", "t", [], {"a": ("field", "b"), "b": None})])
        kinds = [("t", (), (one, other), ()) for one in [NONE, GONE, OTHER] for other in [NONE, SELF, GONE, OTHER]]
        self.assertEqual(self.breaking(0, "k", "behind", *kinds), [False] * 4 + [True] * 4 + [False] * 4)
        self.assertEqual(self.breaking(1, "k", "behind", *kinds), [False, False, True, False] * 3)

    def test_other_rules(self):
        self.begin([("k", "some", "t", OPEN), ("l", "unique", "t", "a")], [("change", "t", [], {"m": "v"})], "a")
        for rule in ["k", "l"]:
            for way in ["behind", "within"]:
                self.assertEqual(self.breaking(1, rule, way, item("v", GONE, True), item("u", NONE, False)), [False, False])

    def test_first(self):
        self.begin([("k", "check", "t", OPEN), ("l", "link", "t", "x", [], [])], [("change", "t", [], {"m": "v"})])
        kinds = [item("u", NONE), item("v", GONE), item("u", GONE)]
        start = [(0, (), "k", "behind", True), (0, (), "l", "behind", True)]
        passed, failed = self.check(1, "k", "within"), self.check(1, "k", "within", False)
        for events, awaited in [([passed], [passed, start[0], start[1]]), ([failed], [None, start[0], start[1]]), ([], [None, *start]),
                                ([self.check(1, "l", "behind"), passed], [passed, *start])]:
            told = [breaks_first(self.script, open_course(self.script, events), kind) for kind in kinds]
            self.assertEqual(told, awaited)


class NewTest(Case):
    def both(self, moment, rule, way, handles="h", asked=new_breaks):
        told = []
        for passed in [True, False]:
            at = self.with_check(self.check(moment, rule, way, passed))
            told.append([asked(*at, handle) for handle in handles])
        self.assertEqual(told[0], told[1])
        for answer in told[0]:
            self.assertIsInstance(answer, bool)
        return told[0] if len(handles) > 1 else told[0][0]

    def put(self, handle, word="u", link=None, **tags):
        return ("put", handle, "t", {"m": word, "x": link and ("new", link), **tags})

    def test_check(self):
        self.begin([("k", "check", "t", OPEN), ("l", "check", "r", [("none", "y")])], [
            self.put("h", "v"), ("change", "t", [], {"m": "u"}), ("take", "t", [("row", "h")])])
        wanted = [(0, "behind", False), (1, "behind", True), (1, "within", True), (2, "behind", False), (2, "within", True),
                  (3, "behind", False), (3, "within", False)]
        for moment, way, awaited in wanted:
            self.assertEqual(self.both(moment, "k", way), awaited)
            self.assertEqual(self.both(moment, "l", way), False)

    def test_link(self):
        self.begin([("k", "link", "t", "x", [], OPEN)], [
            self.put("h", "u", "i"), self.put("i", "u", "h"), ("change", "t", [("row", "i")], {"m": "v"}),
            ("change", "t", [("row", "h")], {"x": None}), ("take", "t", [("row", "h")])])
        # h links to i, which is not there yet, then there, then it does not meet.
        wanted = [(1, "behind", [True, False]), (1, "within", [True, False]), (2, "behind", [False, False]),
                  (2, "within", [True, False]), (3, "behind", [True, False]), (3, "within", [True, False]),
                  (4, "behind", [False, False]), (4, "within", [True, False]), (5, "behind", [False, True]),
                  (5, "within", [False, True])]
        for moment, way, awaited in wanted:
            self.assertEqual(self.both(moment, "k", way, "hi"), awaited, (moment, way))

    def test_a_new_row_that_links_to_itself(self):
        body = [self.put("h", "u", "h"), ("change", "t", [("row", "h")], {"m": "v"})]
        for rule, behind, within in [(OPEN, False, False), ([("is", "m", ["v"])], False, True)]:
            self.begin([("k", "link", "t", "x", OPEN, rule)], body)
            self.assertEqual([self.both(2, "k", "behind"), self.both(2, "k", "within")], [behind, within])

    def test_unique(self):
        word, own = ("word", "w"), ("own",)
        self.begin([("k", "unique", "t", "a"), ("l", "unique", "t", "b")], [
            self.put("h", a=word, b=None), self.put("i", a=word, b=word), self.put("j", a=own, b=word),
            ("change", "t", [("row", "i")], {"a": None, "b": None}), ("change", "t", [("row", "j")], {"b": None, "a": ("field", "b")})],
            "a", "b")
        wanted = [
            (1, "k", "behind", [False] * 3), (2, "k", "behind", [True, True, False]), (2, "k", "within", [True, True, False]),
            (2, "l", "behind", [False] * 3), (3, "l", "behind", [False, True, True]), (4, "k", "behind", [False] * 3),
            (4, "k", "within", [True, True, False]), (4, "l", "within", [False, True, True]), (5, "k", "behind", [True, False, True]),
            (5, "k", "within", [True, False, True]), (4, "l", "behind", [False] * 3)]
        for moment, rule, way, awaited in wanted:
            self.assertEqual(self.both(moment, rule, way, "hij"), awaited, (moment, rule, way))

    def test_own_names_and_no_names(self):
        self.begin([("k", "unique", "t", "a")], [self.put("h", a=("own",)), self.put("i", a=("own",)), self.put("j", a=None),
                                                 self.put("g", a=None)], "a")
        for way in ["behind", "within"]:
            self.assertEqual(self.both(4, "k", way, "hijg"), [False] * 4)

    def test_a_name_in_two_fields(self):
        """Names in another field, or in the same field of another table, do not count."""
        word = ("word", "w")
        self.begin([("k", "unique", "t", "a"), ("l", "unique", "r", "n")], [
            self.put("h", a=word, b=None), self.put("i", a=None, b=word), ("put", "j", "r", {"y": None, "n": word})], "a", "b")
        self.assertEqual([self.both(3, rule, way, "hij") for rule in "kl" for way in ["behind", "within"]], [[False] * 3] * 4)

    def test_some(self):
        self.begin([("k", "some", "t", OPEN), ("l", "some", "r", [])], [
            self.put("h"), ("change", "t", [], {"m": "v"}), ("change", "t", [], {"m": "u"}), ("take", "t", []),
            ("put", "i", "r", {"y": None, "n": None})])
        wanted = [(0, "behind", False), (1, "behind", True), (1, "within", False), (2, "behind", False), (2, "within", False),
                  (3, "behind", True), (3, "within", False), (4, "behind", False), (4, "within", False)]
        for moment, way, awaited in wanted:
            self.assertEqual(self.both(moment, "k", way, "h", new_meets), awaited)
            self.assertEqual(self.both(moment, "k", way, "h", new_breaks), False)
        self.assertEqual(self.both(3, "k", "behind", "hi", new_meets), [True, False])
        self.assertEqual(self.both(5, "l", "behind", "hi", new_meets), [False, True])


class MeetsSomeTest(Case):
    def test_meets_some(self):
        self.begin([("k", "some", "t", OPEN)], [
            ("change", "t", [("none", "x")], {"m": "v"}), ("change", "t", [("none", "x")], {"m": "u"}), ("take", "t", [("none", "x")])])
        kinds = [item("u", NONE), item("u", GONE), item("v", NONE), item("v", SELF), ("r", (), (NONE,), (False,))]
        wanted = [(0, "behind", [True, True, False, False, False]), (1, "behind", [False, True, False, False, False]),
                  (1, "within", [False, True, False, False, False]), (2, "behind", [True, True, True, False, False]),
                  (2, "within", [False, True, False, False, False]), (3, "behind", [False, True, False, False, False]),
                  (3, "within", [False, True, False, False, False])]
        for moment, way, awaited in wanted:
            for passed in [True, False]:
                at = self.with_check(self.check(moment, "k", way, passed))
                told = [meets_some(*at, kind) for kind in kinds]
                self.assertEqual([told, {*map(type, told)}], [awaited, {bool}])


class LinkedTest(Case):
    def told(self, events, kind, other):
        """Well by events, badly by each of them."""
        at = open_course(self.script, events)
        well = is_linked_well(self.script, at, kind, "x", other)
        badly = [is_linked_badly(self.script, at, check, kind, "x", other) for check in events]
        self.assertEqual({*map(type, [well, *badly])}, {bool})
        return well, badly

    def test_behind(self):
        self.begin([("k", "link", "t", "x", OPEN, OPEN)], [("change", "t", [], {"m": "u"}), ("take", "t", [("none", "x")])])
        u, v, none = item("u", OTHER), item("v", OTHER), item("u", NONE)
        one, two = self.check(1, "k", "behind"), self.check(2, "k", "behind")
        self.assertEqual(self.told([], u, u), (True, []))
        self.assertEqual(self.told([], v, v), (True, []))
        # The start is legal.
        self.assertEqual(self.told([], u, v), (False, []))
        self.assertEqual(self.told([one], v, v), (True, [False]))
        self.assertEqual(self.told([one, two], v, none), (False, [False, True]))
        self.assertEqual(self.told([one, (*two[:4], False)], v, none), (True, [False, True]))
        self.assertEqual(self.told([two], none, none), (True, [False]))

    def test_within(self):
        """Each stage of the row, with each one of the other row."""
        self.begin([("k", "link", "t", "x", OPEN, [("is", "m", ["v"])])], [("change", "t", [], {"m": "v"})])
        u, v = item("u", OTHER), item("v", NONE)
        within, behind = self.check(1, "k", "within"), self.check(1, "k", "behind")
        self.assertEqual(self.told([within], u, v), (True, [False]))
        self.assertEqual(self.told([behind], item("v", OTHER), u), (True, [False]))
        self.begin([("k", "link", "t", "x", OPEN, OPEN)], [("change", "t", [], {"m": "v"})])
        self.assertEqual(self.told([within], u, u), (False, [True]))
        self.assertEqual(self.told([behind], u, u), (True, [False]))
        self.assertEqual(self.told([(*within[:4], False)], u, u), (True, [True]))
        # A link that the statement leads elsewhere is in the stage ahead.
        self.begin([("k", "link", "t", "x", [], OPEN)], [("change", "t", [("not", ("none", "x"))], {"x": None}),
                                                       ("change", "t", [], {"m": "v"})])
        self.assertEqual(self.told([self.check(2, "k", "within")], u, item("u", NONE)), (True, [False]))
        self.assertEqual(self.told([within], u, item("u", NONE)), (True, [False]))
        self.begin([("k", "link", "t", "x", [], OPEN)], [("change", "t", [], {"m": "v", "x": None})])
        self.assertEqual(self.told([within], u, item("u", NONE)), (False, [True]))
        self.assertEqual(self.told([behind], u, item("u", NONE)), (True, [False]))

    def test_taken(self):
        self.begin([("k", "link", "t", "x", [], [])], [("take", "t", [("none", "x")])])
        u, none = item("u", OTHER), item("u", NONE)
        for way in ["behind", "within"]:
            check = self.check(1, "k", way)
            self.assertEqual(self.told([check], u, none), (False, [True]))
            self.assertEqual(self.told([check], u, item("u", GONE)), (True, [False]))

    def test_other_fields_and_tables(self):
        schema = Schema({"t": {"x": ("link", "t"), "z": ("link", "t")}, "r": {"y": ("link", "t")}}, [
            ("k", "link", "t", "x", [], [("none", "x")]), ("l", "link", "r", "y", [], [("none", "z")])])
        self.script = Script(schema, [("change", "t", [], {"x": ("field", "z")})])
        at = open_course(self.script, [(1, (0,), "k", "behind", True), (1, (0,), "l", "behind", True)])
        both, one, none = [("t", (), links, ()) for links in [(OTHER, OTHER), (NONE, OTHER), (NONE, NONE)]]
        gone = ("t", (), (NONE, GONE), ())
        self.assertEqual([is_linked_well(self.script, at, both, "x", other) for other in [both, one, none, gone]],
                         [False, True, True, True])
        # The link z is in the field of the rule behind the change, and so it is there.
        self.assertEqual([is_linked_well(self.script, at, both, "z", other) for other in [both, one, none, gone]],
                         [False, False, True, False])
        row = ("r", (), (OTHER,), ())
        self.assertEqual([is_linked_well(self.script, at, row, "y", other) for other in [both, one, none, gone]],
                         [False, False, True, False])
        self.held(is_linked_badly(self.script, at, at[1][1], both, "z", one), False)
        self.held(is_linked_badly(self.script, at, at[1][0], row, "y", one), False)


class SharedTest(Case):
    RULES = [("k", "unique", "t", "a"), ("l", "unique", "t", "b")]

    def told(self, events, kind, field, other, its_field):
        at = open_course(self.script, events)
        well = is_shared_well(self.script, at, kind, field, other, its_field)
        badly = [is_shared_badly(self.script, at, check, kind, field, other, its_field) for check in events]
        self.assertEqual([well, badly], [is_shared_well(self.script, at, other, its_field, kind, field),
                                         [is_shared_badly(self.script, at, check, other, its_field, kind, field) for check in events]])
        self.assertEqual({*map(type, [well, *badly])}, {bool})
        return well, badly

    def test_one_kind_with_itself_and_two(self):
        self.begin(self.RULES, [("change", "t", [("none", "x")], {"a": ("field", "b")})], "a", "b")
        none, self_kind = item("u", NONE, True, True), item("u", SELF, True, True)
        for kind in [none, self_kind]:
            for other in [none, self_kind]:
                self.assertEqual(self.told([], kind, "a", other, "a"), (False, []))
                self.assertEqual(self.told([], kind, "b", other, "b"), (False, []))
                self.assertEqual(self.told([], kind, "a", other, "b"), (True, []))
        for way in ["behind", "within"]:
            check = self.check(1, "k", way)
            self.assertEqual(self.told([check], self_kind, "a", none, "b"), (False, [True]))
            self.assertEqual(self.told([check], self_kind, "a", self_kind, "b"), (True, [False]))
            self.assertEqual(self.told([(*check[:4], False)], self_kind, "a", none, "b"), (True, [True]))
            self.assertEqual(self.told([self.check(1, "l", way)], self_kind, "a", none, "b"), (True, [False]))
        # Within, one of two rows of the kind was changed and the other one was not.
        self.assertEqual(self.told([self.check(1, "k", "behind")], none, "a", none, "b"), (True, [False]))
        self.assertEqual(self.told([self.check(1, "k", "within")], none, "a", none, "b"), (False, [True]))

    def test_rows_that_are_taken(self):
        self.begin([], [("take", "t", [("none", "x")])], "a")
        self.assertEqual(self.told([], item("u", NONE, True), "a", item("u", SELF, True), "a"), (True, []))
        schema = Schema({"t": {"m": ("mark", ["u", "v"]), "a": ("tag",), "b": ("tag",)}}, self.RULES[:1])
        self.script = Script(schema, [("take", "t", [("is", "m", ["v"])]), ("change", "t", [], {"a": ("field", "b")})])
        u, v = [("t", (word,), (), (True, True)) for word in "uv"]
        last = self.check(2, "k", "behind")
        self.assertEqual(self.told([last], u, "b", u, "b"), (False, [True]))
        self.assertEqual(self.told([last], u, "b", v, "b"), (True, [False]))
        self.assertEqual(self.told([last], u, "a", u, "b"), (True, [False]))

    def test_tables_of_other_rules(self):
        self.begin([("k", "unique", "r", "n")], [], "a")
        kind = item("u", NONE, True)
        self.assertEqual(self.told([(0, (), "k", "behind", True)], kind, "a", kind, "a"), (True, [False]))
        row = ("r", (), (NONE,), (True,))
        self.assertEqual(self.told([(0, (), "k", "behind", True)], row, "n", row, "n"), (False, [True]))

    def test_worded(self):
        put = ("put", "h", "t", {"m": "u", "x": None, "a": ("word", "w"), "b": ("word", "q")})
        self.begin(self.RULES, [
            put, ("change", "t", [("row", "h")], {"a": ("field", "b")}), ("change", "t", [("none", "x")], {"a": None}),
            ("take", "t", [("row", "h")])], "a", "b")
        none, gone = item("u", NONE, True, True), item("u", GONE, True, False)
        wanted = [
            (0, "k", "behind", none, "a", "", ""), (1, "k", "behind", none, "a", "w", "q"), (1, "k", "within", none, "a", "w", "q"),
            (1, "k", "behind", none, "b", "", "qw"), (1, "l", "behind", none, "b", "q", "w"), (2, "k", "behind", none, "a", "q", "w"),
            (2, "k", "within", none, "a", "qw", "z"), (3, "k", "behind", none, "a", "", "qw"), (3, "k", "within", none, "a", "q", "w"),
            (3, "k", "behind", gone, "a", "", "qw"), (3, "k", "within", gone, "a", "q", "w"), (2, "k", "within", gone, "a", "qw", "z"),
            (4, "l", "behind", none, "b", "", "qw"), (4, "l", "within", none, "b", "q", "w"), (4, "l", "within", gone, "b", "", "q")]
        for moment, rule, way, kind, field, bad, good in wanted:
            for passed in [True, False]:
                check = self.check(moment, rule, way, passed)
                at = open_course(self.script, [check] if moment else [])
                for word in bad + good:
                    self.held(is_worded_badly(self.script, at, check, kind, field, word), word in bad)
                    self.held(is_worded_well(self.script, at, kind, field, word), word in good or not passed)

    def test_own_names_are_no_names_of_others(self):
        self.begin(self.RULES[:1], [("put", "h", "t", {"m": "u", "x": None, "a": ("own",)})], "a")
        check = self.check(1, "k", "behind")
        at = open_course(self.script, [check])
        self.held(is_worded_badly(self.script, at, check, item("u", NONE, True), "a", "h"), False)
        self.held(is_worded_well(self.script, at, item("u", NONE, True), "a", "a"), True)


class OtherRulesTest(Case):
    def test_checks_of_other_rules(self):
        """A check of a rule of another sort is not broken by links or names."""
        rules = [("k", "link", "t", "x", [], OPEN), ("l", "unique", "t", "a"), ("m", "check", "t", OPEN), ("n", "some", "t", OPEN)]
        put = ("put", "h", "t", {"m": "u", "x": None, "a": ("word", "w")})
        self.begin(rules, [put], "a")
        kind = item("v", OTHER, True)
        for rule in "klmn":
            at = self.with_check(self.check(1, rule, "behind", False))
            self.held(is_linked_badly(*at, kind, "x", kind), rule == "k")
            self.held(is_shared_badly(*at, kind, "a", kind, "a"), rule == "l")
            self.held(is_worded_badly(*at, kind, "a", "w"), rule == "l")
            self.held(breaks(*at, kind), rule == "m")


class DrawnTest(RaisesCase):
    """All that breaks checks in real tables is what rows break by themselves and in pairs."""

    def draw(self, seed):
        chance = random.Random(seed)
        if seed % 3:
            schema, script, modes = draw_lively(chance)
        else:
            schema = draw_schema(chance, 3, 4, 4)
            script, modes = draw_script(chance, schema), draw_modes(chance, schema)
        return script, draw_legal(chance, schema, 6), modes

    def real_spots(self, check, steps, gone):
        moment, address, name, way, _ = check
        if way == "behind":
            return spots(gone[moment], name)
        return spots_within(gone[moment - 1], self.script.statement_at(address), name)

    def all_tables(self, steps, tables):
        gone, kept = [tables], {}
        for address, word in steps:
            if word == "keep":
                kept[address] = tables
            tables = kept[address] if word != "do" else done(tables, self.script.statement_at(address))
            gone.append(tables)
        return gone

    def test_by_real_tables(self):
        seen = {"check": 0, "link": 0, "unique": 0, "some": 0}
        for seed in range(900):
            self.script, self.tables, modes = self.draw(seed)
            if self.tables is None:
                continue
            self.course = course(self.script, modes, run(self.script, self.tables, modes)[0])
            self.kinds = {ident: kind_of(self.tables, self.script.looks(), ident) for ident in self.tables.ids()}
            gone = self.all_tables(self.course[0], self.tables)
            for check in self.course[1]:
                rule = self.script.schema.rule_of(check[2])
                told = self.real_spots(check, self.course[0], gone)
                getattr(self, "look_at_" + rule[1])(check, rule, told)
                seen[rule[1]] += bool(told)
        self.assertTrue(all(many > 9 for many in seen.values()), seen)

    def look_at_check(self, check, rule, told):
        for ident, kind in self.kinds.items():
            self.held(breaks(self.script, self.course, check, kind), (ident,) in told)
        for handle in self.script.handles():
            self.held(new_breaks(self.script, self.course, check, handle), ("+" + handle,) in told)

    def look_at_link(self, check, rule, told):
        for ident, kind in self.kinds.items():
            bad = {}
            for field, link in zip(self.script.schema.links(kind[0]), kind[2]):
                if link == ("other",):
                    other = self.tables[kind[0], ident][field]
                    badly = is_linked_badly(self.script, self.course, check, kind, field, self.kinds[other])
                    bad[other] = bad.get(other, False) or badly
            own = [spot for spot in told if spot[0] == ident and spot[1] not in bad]
            self.held(breaks(self.script, self.course, check, kind), own != [])
            for other, badly in bad.items():
                self.held(badly, (ident, other) in told)
        for handle in self.script.handles():
            self.held(new_breaks(self.script, self.course, check, handle), [spot for spot in told if spot[0] == "+" + handle] != [])

    def look_at_unique(self, check, rule, told):
        schema, tables = self.script.schema, self.tables
        idents = [ident for ident in self.kinds if self.kinds[ident][0] == rule[2]]
        for one in idents:
            for other in idents:
                if one < other:
                    same = [(field, its) for field in schema.tags(rule[2]) for its in schema.tags(rule[2])
                            if tables[rule[2], one][field] == tables[rule[2], other][its] is not None]
                    badly = [is_shared_badly(self.script, self.course, check, self.kinds[one], field, self.kinds[other], its)
                             for field, its in same]
                    self.assertEqual(any(badly), (one, other) in told)
            badly = [is_worded_badly(self.script, self.course, check, self.kinds[one], field, tables[rule[2], one][field])
                     for field in schema.tags(rule[2]) if tables[rule[2], one][field] is not None]
            self.assertEqual(any(badly), [spot for spot in told if spot[0][0] == "+" and spot[1] == one] != [])
        for handle in self.script.handles():
            new = [spot for spot in told if "+" + handle in spot and spot[1][0] == "+"]
            self.held(new_breaks(self.script, self.course, check, handle), new != [])

    def look_at_some(self, check, rule, told):
        meeting = [meets_some(self.script, self.course, check, kind) for kind in self.kinds.values()]
        meeting += [new_meets(self.script, self.course, check, handle) for handle in self.script.handles()]
        self.assertEqual(told, [] if any(meeting) else [()])


if __name__ == "__main__":
    unittest.main()
