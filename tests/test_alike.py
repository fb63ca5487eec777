"""Point 90, and guarantee 9: scripts that end alike, and tables from which others do not."""

import copy
import random
import unittest
from unittest import mock

from endchecks.alike import end_alike, part
from endchecks.errors import CheckError, Full, Illegal, TooMany, Unfit
from endchecks.paths import paths
from endchecks.rowkinds import how_many
from endchecks.runs import run
from endchecks.schemas import Schema
from endchecks.scripts import Script
from endchecks.spots import is_legal
from tests.cases import RaisesCase
from tests.drawn import draw_lively, draw_modes, draw_schema, draw_script, draw_tests
from tests.every import all_legal
from tests.samples import tasks, tree

END = ("change", "task", [("none", "boss")], {"state": "done"})
CUT = ("change", "task", [("not", ("none", "boss"))], {"boss": None})
TAKE = ("take", "task", [])
U, V = [("is", "m", ["u"])], [("is", "m", ["v"])]
TURN = ("change", "t", [("none", "x")], {"m": "v"})


def simple(rules=(), **fields):
    """A schema of one table t with a mark m and two links x and y to itself, and what else is passed."""
    return Schema({"t": {"m": ("mark", ["u", "v"]), "x": ("link", "t"), "y": ("link", "t"), **fields}}, rules)


def put(handle="h", table="t", **row):
    return ("put", handle, table, {"m": "u", "x": None, "y": None, **row})


class AlikeCase(RaisesCase):
    def alike(self, schema, one, other, modes=None, its=None):
        """That two bodies are alike from all legal tables; so told from both sides."""
        scripts = [Script(schema, body) for body in [one, other]]
        modes = modes or {}
        its = modes if its is None else its
        self.assertIsNone(part(*scripts, modes, its))
        self.assertIsNone(part(*scripts[::-1], its, modes))
        chance, many = random.Random(1), 0
        for tables in all_legal(schema, ["a", "b"], chance) + all_legal(schema, ["a", "b", "c"], chance):
            self.held(end_alike(*scripts, tables, modes, its), True)
            many += 1
        self.assertGreater(many, 0)

    def parted(self, schema, one, other, modes=None, its=None):
        """That two bodies are not alike; returns the two ends of the paths from the tables that are told."""
        scripts = [Script(schema, body) for body in [one, other]]
        modes = modes or {}
        its = modes if its is None else its
        self.ends(*scripts[::-1], its, modes)
        return self.ends(*scripts, modes, its)

    def ends(self, one, other, modes, its):
        before = [copy.deepcopy(thing) for thing in [one.body(), other.body(), modes, its]]
        tables = part(one, other, modes, its)
        self.assertTrue(is_legal(tables))
        self.held(end_alike(one, other, tables, modes, its), False)
        (path, last), (its_path, its_last) = run(one, tables, modes), run(other, tables, its)
        if path[1] is None and its_path[1] is None:
            self.assertNotEqual(last, its_last)
        else:
            self.assertIn(None, [path[1], its_path[1]])
            self.assertNotEqual(path[1], its_path[1])
        self.assertEqual([one.body(), other.body(), modes, its], before)
        again = tables.copied()
        for ident in tables.ids():
            tables.drop(tables.table_of(ident), ident)
        self.assertEqual(part(one, other, modes, its), again)
        return path[1], its_path[1]


class EndAlikeTest(RaisesCase):
    def test_ends(self):
        tables = tasks({"a": ("open",), "b": ("open", "a")})
        wanted = [([END], [END], True), ([CUT], [CUT], True), ([CUT], [CUT, CUT], True), ([CUT], [], False), ([CUT], [END], False),
                  ([END], [], False), ([END], [TAKE], True), ([TAKE], [END, CUT], True), ([CUT, END], [END], False),
                  ([CUT, END], [CUT, END, END], True), ([("trial", [CUT])], [], True), ([("try", [END], ["whole"], [])], [], True)]
        for one, other, awaited in wanted:
            scripts = Script(tree(), one), Script(tree(), other)
            self.held(end_alike(*scripts, tables, {}, {}), awaited)
            self.held(end_alike(*scripts[::-1], tables, {}, {}), awaited)
        self.assertEqual(tables, tasks({"a": ("open",), "b": ("open", "a")}))

    def test_modes(self):
        tables = tasks({"a": ("open",), "b": ("open", "a")})
        one, other = Script(tree(), [END, CUT]), Script(tree(), [CUT, END])
        self.held(end_alike(one, one, tables, {}, {"whole": "late"}), False)
        self.held(end_alike(one, one, tables, {"whole": "late"}, {}), False)
        self.held(end_alike(one, one, tables, {"whole": "late"}, {"whole": "late"}), True)
        self.held(end_alike(one, other, tables, {}, {"whole": "each"}), False)

    def test_tables_that_are_not_legal(self):
        script = Script(tree(), [])
        self.refused(Illegal, "rule", "some", end_alike, script, script, tasks({}), {}, {})


class PartTest(AlikeCase):
    def test_the_same(self):
        for body in [[], [END], [CUT], [TAKE], [END, CUT], [("try", [END], ["whole"], [CUT])]]:
            self.alike(tree(), body, body)

    def test_one_is_done_and_the_other_fails(self):
        schema = simple([("k", "check", "t", U)])
        self.assertEqual(self.parted(schema, [TURN], []), (((0,), "k"), None))
        self.assertEqual(self.parted(schema, [], [TURN]), (None, ((0,), "k")))
        self.assertEqual(self.parted(schema, [], [TURN], {"k": "late"}), (None, ((), "k")))
        self.parted(tree(), [END], [])
        self.parted(tree(), [END, CUT], [CUT, END])

    def test_both_are_done(self):
        self.assertEqual(self.parted(tree(), [CUT], []), (None, None))
        self.assertEqual(self.parted(simple(), [TURN], [("change", "t", [("none", "y")], {"m": "v"})]), (None, None))
        self.assertEqual(self.parted(simple(), [("take", "t", U)], [("take", "t", [*U, ("none", "x")])]), (None, None))
        # One takes what the other one changes.
        self.assertEqual(self.parted(simple(), [("take", "t", U)], [("change", "t", U, {"m": "v"})]), (None, None))

    def test_other_rules_fail(self):
        """One fails just where the other one does, at another rule and statement."""
        schema = simple([("k", "check", "t", U), ("l", "check", "t", [("is", "n", ["a"])])], n=("mark", ["a", "b"]))
        other = ("change", "t", [("none", "x")], {"n": "b"})
        self.alike(schema, [TURN], [other])
        self.alike(schema, [TURN], [("trial", []), other])
        self.parted(schema, [TURN], [("change", "t", [("none", "y")], {"n": "b"})])
        # One fails always, as does the other.
        self.alike(tree(), [TAKE], [CUT, TAKE, END])

    def test_caught_failures(self):
        """What is caught does not matter, but for what is done then."""
        schema = simple([("k", "link", "t", "x", [], U)])
        caught = [("try", [TURN], ["k"], [])]
        self.parted(schema, caught, [TURN])
        self.parted(schema, caught, [])
        self.alike(schema, caught, [("try", [("trial", [TURN]), TURN], ["k"], [])])
        self.alike(schema, caught, [("try", caught, ["k"], [TURN])])
        self.alike(schema, [("try", [TURN], ["k"], [TURN])], [TURN])
        self.assertEqual(self.parted(schema, [("try", [TURN], ["k"], [("change", "t", [], {"y": None})])], caught), (None, None))

    def test_other_modes(self):
        schema = simple([("k", "link", "t", "x", U, U)])
        turn = [("change", "t", [], {"m": "v"})]
        self.assertEqual(self.parted(schema, turn, turn, {}, {"k": "each"}), (None, ((0,), "k")))
        self.assertEqual(self.parted(schema, turn, turn, {"k": "each"}, {"k": "late"}), (((0,), "k"), None))
        self.alike(schema, turn, turn, {"k": "now"}, {"k": "late"})
        self.alike(schema, turn, turn, {}, {"k": "now"})
        # By tables that fail at the end one is like the other.
        self.alike(tree(), [END], [END], {"whole": "late"}, {"whole": "each"})
        self.parted(tree(), [END, CUT], [END, CUT], {"whole": "late"}, {})

    def test_switches(self):
        for mode in ["each", "now", "late"]:
            self.alike(tree(), [("switch", ["whole"], mode), CUT, END], [CUT, END], {"whole": mode})
        self.parted(tree(), [("switch", ["whole"], "late"), END, CUT], [END, CUT])
        self.alike(tree(), [("switch", ["whole"], "late"), END, CUT], [END, CUT], {}, {"whole": "late"})
        # A switch that checks what the next statement would check.
        self.alike(tree(), [("switch", ["whole"], "late"), END, ("switch", ["whole"], "now")], [END])

    def test_changes_that_change_nothing(self):
        schema = simple([("k", "link", "t", "x", [], U)], c=("tag",))
        never = ("change", "t", [("none", "x"), ("not", ("none", "x"))], {"m": "v"})
        for nothing in [("change", "t", U, {"m": "u"}), ("change", "t", [], {"x": ("field", "x"), "c": ("field", "c")}), never,
                        ("change", "t", [("none", "x")], {"x": None}), ("take", "t", [*U, *V]), ("trial", []), ("trial", [never]),
                        ("try", [], [], [TURN]), ("try", [], ["k"], [("take", "t", [])])]:
            self.alike(schema, [nothing], [])
            self.alike(schema, [nothing, ("take", "t", V)], [("take", "t", V), nothing])
        # What is asked of a new row that is not there.
        self.alike(schema, [("take", "t", [("row", "h")]), put(c=None)], [put(c=None)])
        self.parted(schema, [put(c=None), ("take", "t", [("row", "h")])], [put(c=None)])

    def test_tests_told_otherwise(self):
        schema = simple([("k", "some", "t", V)])
        for tests in [[*V, *V], [("is", "m", ["v", "v"])], [("not", ("is", "m", ["u"]))], [("not", ("not", ("is", "m", ["v"])))]]:
            self.alike(schema, [("take", "t", tests)], [("take", "t", V)])
        self.alike(schema, [("take", "t", [("is", "m", ["u", "v"])])], [("take", "t", [])])
        self.alike(schema, [("take", "t", [*V, ("none", "x")])], [("take", "t", [("none", "x"), *V])])
        self.parted(schema, [("take", "t", [*V, ("none", "x")])], [("take", "t", V)])

    def test_links_that_are_copied(self):
        """Where a row links to two others its links are not the same."""
        copies, swap = ("change", "t", [], {"x": ("field", "y")}), ("change", "t", [], {"x": ("field", "y"), "y": ("field", "x")})
        told = ("check", "t", [("not", ("none", "x")), ("not", ("none", "y"))])
        for rules in [[], [("n", *told)], [("n", *told), ("k", "link", "t", "x", [], []), ("j", "link", "t", "y", [], [])]]:
            for turn in [copies, swap]:
                self.assertEqual(self.parted(simple(rules), [turn], []), (None, None))
            self.alike(simple(rules), [swap, swap], [])
            self.alike(simple(rules), [copies, copies], [copies])
        away = Schema({"t": {"x": ("link", "s"), "y": ("link", "s")}, "s": {}}, [("k", "check", "t", [("none", "x"), ("none", "y")])])
        self.alike(away, [copies], [])

    def test_links_to_the_row_itself(self):
        """If a row is to link to rows that are changed just when it is, it links to itself: in both fields alike."""
        rules = [("c", "check", "t", U), ("n", "check", "t", [("not", ("none", "x")), ("not", ("none", "y"))]),
                 ("k", "link", "t", "x", U, U), ("j", "link", "t", "y", U, U)]
        body = [("change", "t", [], {"m": "v"}), ("change", "t", [], {"m": "u"})]
        swap = ("change", "t", [], {"x": ("field", "y"), "y": ("field", "x")})
        modes = {"c": "late", "k": "each", "j": "each"}
        self.alike(simple(rules), [*body, swap], body, modes)
        self.alike(simple(rules), [*body, ("change", "t", [], {"x": ("field", "y")})], body, modes)
        self.assertEqual(self.parted(simple(rules), [*body, swap], body, {**modes, "j": "now"}), (None, None))
        self.assertEqual(self.parted(simple(rules), [*body, ("change", "t", [], {"x": None})], body, {**modes, "n": "late"})[1], None)

    def test_tags(self):
        schema = simple(c=("tag",), d=("tag",))
        copies = [("change", "t", [], {"c": ("field", "d")})]
        self.assertEqual(self.parted(schema, copies, []), (None, None))
        both = [("change", "t", [], {"c": ("field", "d"), "d": ("field", "c")})]
        self.alike(schema, both * 2, [])
        self.alike(schema, copies * 2, copies)
        none = [("change", "t", [("none", "d"), ("none", "c")], {"c": ("field", "d")})]
        self.alike(schema, none, [])

    def test_new_rows(self):
        schema = simple([("k", "unique", "t", "c")], c=("tag",))
        one = [put(c=("own",))]
        self.alike(schema, one, [("put", "h", "t", {"c": ("own",), "y": None, "x": None, "m": "u"})])
        for other in [put("i", c=("own",)), put(c=None), put(c=("own",), m="v"), put(c=("own",), x=("new", "h")), put(c=("word", "w"))]:
            self.parted(schema, one, [other])
        self.alike(schema, [put(c=None), put("i", c=None)], [put("i", c=None), put(c=None)])
        # They become the same.
        self.alike(schema, one, [put(c=("own",), m="v"), ("change", "t", [("row", "h")], {"m": "u"})])
        self.alike(schema, [put(c=None, x=("new", "h"))], [put(c=("own",), y=("new", "h"), x=("new", "h")), ("change", "t", [("row", "h")], {"y": None, "c": None})])
        self.alike(schema, [put(c=("own",)), ("take", "t", [("row", "h")])], [])
        # The name of one word is that of another row for both; of two words it is not.
        word = [put(c=("word", "w"))]
        self.alike(schema, [*word, ("take", "t", [])], [put("i", c=("word", "w")), ("take", "t", [])])
        self.parted(schema, [*word, ("take", "t", [])], [put(c=("word", "v")), ("take", "t", [])])

    def test_new_rows_of_other_tables(self):
        schema = Schema({"s": {}, "t": {}})
        self.assertEqual(self.parted(schema, [("put", "h", "s", {})], [("put", "h", "t", {})]), (None, None))
        self.alike(schema, [("put", "h", "s", {})], [("trial", [("put", "i", "t", {})]), ("put", "h", "s", {})])
        self.parted(schema, [("put", "h", "s", {}), ("take", "s", [])], [("put", "h", "t", {}), ("take", "t", [])])

    def test_links_to_new_rows(self):
        """Puts in another order, words that are alike, links to new rows that are there, taken, or put only then."""
        schema = simple([("k", "link", "t", "x", [], []), ("l", "unique", "t", "c")], c=("tag",))
        link = ("change", "t", V, {"x": ("new", "h")})
        first, second = put(c=("word", "w")), put("i", c=("word", "v"), y=("new", "h"))
        self.alike(schema, [first, second, link], [second, first, link])
        self.parted(schema, [first, link], [link, first])
        self.alike(schema, [first, link], [link, first], {"k": "late"})
        self.alike(schema, [first, link, second], [first, second, link], {"k": "each"})
        again = [first, link, ("take", "t", [("row", "h")]), second]
        self.parted(schema, again, [second, first, ("take", "t", [("row", "h")])])
        self.alike(schema, again, [second, first, link, ("take", "t", [("row", "h")])])
        self.alike(schema, again, [first, link, second, ("take", "t", [("new", "y", "h"), ("new", "x", "h")]), ("take", "t", [("row", "h")])])

    def test_looks(self):
        schema = Schema({"t": {"m": ("mark", ["u", "v"]), "x": ("link", "s")}, "s": {"n": ("mark", ["a", "b"])}},
                        [("k", "link", "t", "x", [], [])])
        look = [("change", "t", [("at", "x", [("is", "n", ["a"])])], {"m": "v"})]
        away = [("change", "t", [("not", ("at", "x", [("is", "n", ["b"])]))], {"m": "v"})]
        self.parted(schema, look, [])
        self.parted(schema, look, away)
        self.alike(schema, look, [("change", "t", [("not", ("at", "x", [("is", "n", ["b"])])), ("not", ("none", "x"))], {"m": "v"})])
        turn = ("change", "s", [("is", "n", ["b"])], {"n": "a"})
        self.parted(schema, [turn, *look], [*look, turn])
        self.alike(schema, [turn, *look], [("change", "t", [("not", ("none", "x"))], {"m": "v"}), turn])

    def test_no_legal_tables(self):
        schema = simple([("k", "check", "t", U), ("s", "some", "t", V)])
        scripts = Script(schema, []), Script(schema, [("take", "t", []), put()])
        self.assertIsNone(part(*scripts, {}, {}))

    def test_unfit(self):
        script = Script(tree(), [END])
        for other in [Script(tree([]), [END]), Script(tree(tree().rules()[::-1]), [END]), Script(simple(), [])]:
            for pair in [(script, other), (other, script)]:
                for most in [1, 200]:
                    with self.assertRaises(Unfit):
                        part(*pair, {}, {}, most=most)
        words = [*tree().fields("task")["state"][1]][::-1]
        turned = Schema({"task": {**tree().fields("task"), "state": ("mark", words)}}, tree().rules())
        self.assertIsNone(part(script, Script(turned, [END]), {}, {}))

    def test_looks_that_are_not_flat(self):
        links = {"m": ("mark", ["u", "v"]), "x": ("link", "s"), "y": ("link", "r"), "z": ("link", "t")}
        schema = Schema({"t": {field: links[field] for field in ["m", "x", "y"]}, "s": {field: links[field] for field in ["m", "y", "z"]},
                         "r": {"m": links["m"], "z": links["z"]}})
        look = {pair: Script(schema, [("take", pair[0], [("at", {"s": "x", "r": "y", "t": "z"}[pair[1]], U)])])
                for pair in ["ts", "tr", "sr", "st", "rt"]}
        for one in look:
            for other in look:
                if {one[0], other[0]} & {one[1], other[1]}:
                    with self.assertRaises(Unfit):
                        part(look[one], look[other], {}, {}, most=1)
                else:
                    self.refused(TooMany, "limit", 1, lambda: part(look[one], look[other], {}, {}, most=1))
                    self.assertEqual(part(look[one], look[other], {}, {}, most=400) is None, one == other)

    def test_too_many_kinds(self):
        script = Script(tree(), [END])
        part(script, script, {}, {}, most=16)
        self.refused(TooMany, "limit", 15, lambda: part(script, script, {}, {}, most=15))
        with self.assertRaises(TypeError):
            part(script, script, {}, {}, 16)
        # By the looks of both: one that looks has more kinds.
        schema = Schema({"t": {"m": ("mark", ["u", "v"]), "x": ("link", "s")}, "s": {"n": ("mark", ["a", "b"])}})
        look = Script(schema, [("take", "t", [("at", "x", [])])])
        plain = Script(schema, [])
        self.assertEqual([how_many(schema, script.looks()) for script in [plain, look]], [8, 10])
        self.assertIsNone(part(plain, plain, {}, {}, most=8))
        for pair in [(plain, look), (look, plain)]:
            self.refused(TooMany, "limit", 9, lambda: part(*pair, {}, {}, most=9))
            self.assertIsNotNone(part(*pair, {}, {}, most=10))

    def test_too_many_paths(self):
        words = ["a", "b", "c", "d"]
        schema = Schema({"t": {"m": ("mark", words), "n": ("mark", words)}}, [("k", "check", "t", [("not", ("is", "m", ["d"]))])])
        turns = [("try", [("change", "t", [("is", "m", [word]), ("is", "n", [other])], {"m": "d"})], ["k"], []) for word in "abc" for other in "ab"]
        many, few = Script(schema, turns), Script(schema, [])
        self.assertEqual(len(paths(many, {})), 64)
        for pair in [(many, few), (few, many), (many, many)]:
            self.assertIsNone(part(*pair, {}, {}, most=64))
            self.refused(TooMany, "limit", 63, lambda: part(*pair, {}, {}, most=63))
        self.assertIsNone(part(many, Script(schema, turns[::-1]), {}, {}))
        # They part, but there are too many paths.
        take = Script(schema, [("take", "t", [])])
        self.refused(TooMany, "limit", 63, lambda: part(take, many, {}, {}, most=63))
        self.assertIsNotNone(part(take, many, {}, {}, most=64))

    def test_limits_that_are_left_out(self):
        words = ["a", "b", "c", "d"]
        wide = {"m": ("mark", words), "n": ("mark", words), "t": ("tag",), "x": ("link", "t")}
        two = {"m": ("mark", words), "n": ("mark", words[:3]), "t": ("tag",), "x": ("link", "t")}
        just, more = Script(Schema({"t": wide, "s": two}), []), Script(Schema({"t": wide, "s": two, "r": {}}), [])
        self.assertIsNone(part(just, just, {}, {}))
        self.refused(TooMany, "limit", 200, part, more, more, {}, {})

    def test_full(self):
        """Where the tables would have too many rows; here already a few are."""
        with mock.patch("endchecks.paths.MOST_AT_START", 5):
            self.refused(Full, "limit", 5, part, Script(tree(), [CUT]), Script(tree(), []), {}, {})
            self.assertIsNone(part(Script(tree(), [CUT]), Script(tree(), [CUT]), {}, {}))


def variant(chance, script):
    """A script of the same schema: told a little otherwise, or another one."""
    schema, body = script.schema, script.body()
    while True:
        other = list(body)
        at = chance.randrange(len(other) + 1)
        kind = chance.choice(["turned", "less", "twice", "asked", "shuffled", "drawn", "trial"])
        if kind == "turned":
            other[at:at + 2] = other[at:at + 2][::-1]
        elif kind == "less":
            del other[at:at + 1]
        elif kind == "twice":
            other[at:at] = other[at:at + 1]
        elif kind == "shuffled":
            chance.shuffle(other)
        elif kind == "trial":
            other[at:at] = [("trial", other[at:at + 1])]
        elif kind == "drawn":
            other = draw_script(chance, schema, 2).body()
        else:
            other = [(*item[:2], item[2] + draw_tests(chance, schema.fields(item[1]), 1), *item[3:])
                     if item[0] in ["change", "take"] else item for item in other]
        try:
            return Script(schema, other)
        except CheckError:
            pass


class DrawnTest(AlikeCase):
    def test_parted_or_alike(self):
        """Guarantee 9: where none are told, all legal tables with a few rows end alike; others do not."""
        told = {True: 0, False: 0, "same": 0, "other": 0}
        for seed in range(300):
            chance = random.Random(seed)
            if seed % 3:
                schema, script, modes = draw_lively(chance)
            else:
                schema = draw_schema(chance, 3, 3, 3)
                script, modes = draw_script(chance, schema, 2), draw_modes(chance, schema)
            other = variant(chance, script)
            its = chance.choice([modes, modes, draw_modes(chance, schema)])
            looks = sorted({*script.looks(), *other.looks()})
            if {look[0] for look in looks} & {look[1] for look in looks} or how_many(schema, looks) > 60:
                continue
            tables = part(script, other, modes, its)
            self.assertEqual(part(other, script, its, modes) is None, tables is None)
            if tables is None:
                for start in all_legal(schema, ["a", "b"], chance, 40) + all_legal(schema, ["a", "b", "c", "d"], chance, 20):
                    self.held(end_alike(script, other, start, modes, its), True)
                    told["same" if script == other else "other"] += 1
                told[True] += 1
            else:
                self.ends(script, other, modes, its)
                told[False] += 1
        self.assertGreater(min(told.values()), 40, told)


if __name__ == "__main__":
    unittest.main()
