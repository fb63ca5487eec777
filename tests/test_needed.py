"""Point 91, and guarantee 10: how early the rules of a script can be checked."""

import random
import unittest
from unittest import mock

from endchecks.doing import holds_within
from endchecks.errors import CheckError, Full, TooMany
from endchecks.needed import breaks, needed_modes, tables_in
from endchecks.rowkinds import how_many
from endchecks.runs import run, unchecked
from endchecks.schemas import Schema
from endchecks.scripts import Script
from endchecks.spots import holds, is_legal
from tests.cases import RaisesCase
from tests.drawn import draw_lively, draw_schema, draw_script
from tests.every import all_legal
from tests.samples import RULES, tree

END = ("change", "task", [("none", "boss")], {"state": "done"})
CUT = ("change", "task", [("not", ("none", "boss"))], {"boss": None})
OPEN = ("change", "task", [], {"state": "open"})
TAKE = ("take", "task", [])
U, V = [("is", "m", ["u"])], [("is", "m", ["v"])]
WAYS = ["within", "behind"]


def put(handle, code):
    return ("put", handle, "task", {"state": "open", "boss": None, "code": code})


def late(schema):
    return {name: "late" for name in schema.names()}


def all_places(script):
    return [(address, name, way) for address in script.addresses() for name in script.schema.names() for way in WAYS]


def in_the_way(script, tables):
    """All that is in the way from tables, by the words of the document; None if the script is not done from them."""
    if run(script, tables, late(script.schema))[0] != ((), None):
        return None
    found, ahead = [], tables
    for address, behind in unchecked(script, tables):
        for name in script.schema.names():
            if not holds_within(ahead, script.statement_at(address), name):
                found.append((address, name, "within"))
            if not holds(behind, name):
                found.append((address, name, "behind"))
        ahead = behind
    return found


class NeededCase(RaisesCase):
    def look_at(self, script):
        """That what is told is right as far as tables show it; returns it."""
        told = breaks(script)
        self.assertEqual(told, [place for place in all_places(script) if place in told])
        for place in all_places(script):
            tables = tables_in(script, *place)
            if place in told:
                self.assertTrue(is_legal(tables))
                self.assertTrue(is_legal(run(script, tables, late(script.schema))[1]))
                self.assertIn(place, in_the_way(script, tables))
            else:
                self.assertIsNone(tables)
        modes = needed_modes(script)
        self.assertEqual(list(modes), sorted(script.schema.names()))
        for name in modes:
            ways = {place[2] for place in told if place[1] == name}
            self.assertEqual(modes[name], "late" if "behind" in ways else "now" if "within" in ways else "each")
        return told

    def check(self, schema, body, awaited, **modes):
        script = Script(schema, body)
        told = self.look_at(script)
        self.assertEqual(told, awaited)
        self.assertEqual({name: mode for name, mode in needed_modes(script).items() if mode != "each"}, modes)
        told.append("x")
        needed_modes(script)["whole"] = "x"
        self.assertEqual(breaks(script), awaited)
        self.assertEqual({name: mode for name, mode in needed_modes(script).items() if mode != "each"}, modes)
        self.assertEqual(script.body(), body)


class NeededTest(NeededCase):
    def test_nothing_in_the_way(self):
        self.check(tree(), [], [])
        self.check(tree(), [CUT], [])
        # What fails in the end, too, is not in the way: from such tables the script is not done.
        self.check(tree(), [END], [])
        self.check(tree(), [TAKE], [])
        self.assertEqual(needed_modes(Script(tree(), [END])), {"code": "each", "some": "each", "whole": "each"})

    def test_behind(self):
        self.check(tree(), [END, CUT], [((0,), "whole", "within"), ((0,), "whole", "behind"), ((1,), "whole", "within")], whole="late")
        self.check(tree(), [END, OPEN], [((0,), "whole", "within"), ((0,), "whole", "behind"), ((1,), "whole", "within")], whole="late")
        self.check(tree(), [TAKE, put("h", None)], [((0,), "whole", "within"), ((0,), "some", "within"), ((0,), "some", "behind"),
                                                    ((1,), "some", "within")], some="late", whole="now")
        self.check(tree(), [put("h", ("word", "x")), ("take", "task", [("not", ("none", "code"))])],
                   [((0,), "code", "within"), ((0,), "code", "behind"), ((1,), "whole", "within"), ((1,), "code", "within")],
                   code="late", whole="now")

    def test_a_rule_that_breaks_by_itself(self):
        schema = Schema({"t": {"m": ("mark", ["u", "v"])}}, [("k", "check", "t", U)])
        turn, back = ("change", "t", U, {"m": "v"}), ("change", "t", V, {"m": "u"})
        self.check(schema, [turn, back], [((0,), "k", "within"), ((0,), "k", "behind"), ((1,), "k", "within")], k="late")
        self.check(schema, [turn, back, turn, back], [((at,), "k", way) for at, way in
                   [(0, "within"), (0, "behind"), (1, "within"), (2, "within"), (2, "behind"), (3, "within")]], k="late")
        self.check(schema, [turn, ("take", "t", V)], [((0,), "k", "within"), ((0,), "k", "behind"), ((1,), "k", "within")], k="late")

    def test_within(self):
        """Rows are changed one after another: this is in the way of "each" alone."""
        fields = {"m": ("mark", ["u", "v"]), "x": ("link", "t"), "a": ("tag",), "b": ("tag",)}
        link = Schema({"t": fields}, [("k", "link", "t", "x", U, U)])
        self.check(link, [("change", "t", [], {"m": "v"})], [((0,), "k", "within")], k="now")
        some = Schema({"t": fields}, [("s", "some", "t", U)])
        swap = [("change", "t", U, {"m": "v"}), ("change", "t", [("none", "x")], {"m": "u"})]
        self.check(some, swap, [((0,), "s", "within"), ((0,), "s", "behind"), ((1,), "s", "within")], s="late")
        unique = Schema({"t": fields}, [("a", "unique", "t", "a"), ("b", "unique", "t", "b")])
        self.check(unique, [("change", "t", [], {"a": ("field", "b"), "b": ("field", "a")})],
                   [((0,), "a", "within"), ((0,), "b", "within")], a="now", b="now")
        both = Schema({"t": fields}, [("s", "some", "t", [("none", "x")]), ("k", "link", "t", "x", U, U), ("c", "check", "t", [])])
        self.check(both, [("change", "t", [], {"m": "v"}), ("take", "t", []), ("put", "h", "t", {"m": "u", "x": None, "a": None, "b": None})],
                   [((0,), "k", "within"), ((1,), "s", "within"), ((1,), "s", "behind"), ((2,), "s", "within")], k="now", s="late")

    def test_order(self):
        """By address, then in the order of the rules."""
        body = [END, TAKE, put("h", None)]
        awaited = [((0,), "whole", "within"), ((0,), "whole", "behind"), ((1,), "whole", "within"), ((1,), "some", "within"),
                   ((1,), "some", "behind"), ((2,), "some", "within")]
        self.check(tree(), body, awaited, whole="late", some="late")
        turned = [awaited[at] for at in [0, 1, 3, 4, 2, 5]]
        self.check(tree(RULES[::-1]), body, turned, whole="late", some="late")

    def test_new_rows_and_names(self):
        top = ("put", "h", "task", {"state": "open", "boss": ("new", "i"), "code": ("own",)})
        self.check(tree(), [top, put("i", None)], [((0,), "whole", "within"), ((0,), "whole", "behind"), ((1,), "whole", "within")], whole="late")
        self.check(tree(), [put("i", None), top], [])
        self.check(tree(), [put("i", ("word", "x")), put("h", ("word", "x")), ("change", "task", [("row", "h")], {"code": None})],
                   [((1,), "code", "within"), ((1,), "code", "behind"), ((2,), "code", "within")], code="late")

    def test_looks(self):
        schema = Schema({"t": {"m": ("mark", ["u", "v"]), "x": ("link", "s")}, "s": {"n": ("mark", ["a", "b"])}},
                        [("k", "link", "t", "x", U, [("is", "n", ["a"])])])
        turn = ("change", "s", [], {"n": "b"})
        away = ("change", "t", [("at", "x", [("is", "n", ["b"])])], {"m": "v"})
        self.check(schema, [turn, away], [((0,), "k", "within"), ((0,), "k", "behind"), ((1,), "k", "within")], k="late")
        self.check(schema, [away, turn], [])

    def test_no_tables(self):
        """From no tables the script is done, or none are legal."""
        schema = Schema({"t": {"m": ("mark", ["u", "v"])}}, [("k", "check", "t", U), ("s", "some", "t", [])])
        self.check(schema, [("change", "t", [], {"m": "v"})], [])
        schema = Schema({"t": {"m": ("mark", ["u", "v"])}}, [("k", "check", "t", U), ("s", "some", "t", V)])
        self.check(schema, [("take", "t", []), ("put", "h", "t", {"m": "v"})], [])

    def test_addresses_that_are_none(self):
        script = Script(tree(), [END, CUT])
        for address in [(), (2,), (0, 0, 0)]:
            self.assertIsNone(tables_in(script, address, "whole", "behind"))

    def test_too_many(self):
        script = Script(tree(), [END, CUT])
        calls = [breaks, needed_modes, lambda script, **most: tables_in(script, (0,), "whole", "behind", **most)]
        words = ["a", "b", "c", "d"]
        wide = {"m": ("mark", words), "n": ("mark", words), "t": ("tag",), "x": ("link", "t")}
        two = {"m": ("mark", words), "n": ("mark", words[:3]), "t": ("tag",), "x": ("link", "t")}
        k = ("whole", "check", "t", [("is", "m", ["a"])])
        turns = [("change", "t", [], {"m": "b"}), ("take", "t", [])]
        for call in calls:
            awaited = call(script)
            self.assertEqual(call(script, most=16), awaited)
            self.refused(TooMany, "limit", 15, lambda: call(script, most=15))
            just = Script(Schema({"t": wide, "s": two}, [k]), turns)
            self.assertEqual(call(just), call(just, most=200))
            self.refused(TooMany, "limit", 200, call, Script(Schema({"t": wide, "s": two, "r": {}}, [k]), turns))
            call(Script(Schema({"t": wide, "s": two, "r": {}}, [k]), turns), most=201)
        with self.assertRaises(TypeError):
            breaks(script, 16)

    def test_full(self):
        """Where the tables would have too many rows; here already a few are."""
        script = Script(tree(), [END, CUT])
        with mock.patch("endchecks.paths.MOST_AT_START", 2):
            self.refused(Full, "limit", 2, tables_in, script, (0,), "whole", "behind")
            self.assertIsNone(tables_in(script, (1,), "whole", "behind"))
            self.assertEqual(needed_modes(script), {"code": "each", "some": "each", "whole": "late"})


def draw_plain(chance, seed):
    """A schema, and a script without blocks and switches."""
    if seed % 3 == 0:
        schema = draw_schema(chance, 3, 3, 3)
        return draw_script(chance, schema, 3, 0, 0)
    while True:
        script = draw_lively(chance)[1]
        single = [script.statement_at(address) for address in script.addresses()]
        try:
            return Script(script.schema, [statement for statement in single if statement[0] in ["put", "change", "take"]])
        except CheckError:
            pass


class DrawnTest(NeededCase):
    def draw(self, seeds):
        for seed in range(seeds):
            chance = random.Random(seed)
            script = draw_plain(chance, seed)
            if how_many(script.schema, script.looks()) <= 60:
                yield chance, script, all_legal(script.schema, ["a", "b"], chance, 60) + all_legal(script.schema, ["a", "b", "c", "d"], chance, 20)

    def test_all_tables(self):
        """What is in the way from some tables is told, and nothing else is."""
        seen = {word: 0 for word in [*WAYS, "tables"]}
        for chance, script, every in self.draw(320):
            told = self.look_at(script)
            for place in told:
                seen[place[2]] += 1
            for tables in every:
                found = in_the_way(script, tables)
                self.assertEqual(set(found or []) - set(told), set())
                seen["tables"] += found is not None
        self.assertGreater(min(seen.values()), 30, seen)

    def test_least_modes(self):
        """Guarantee 10: with these modes a script fails only where it does with all late; with a lesser one also elsewhere."""
        lesser, done = 0, 0
        for chance, script, every in self.draw(320):
            modes, names = needed_modes(script), script.schema.names()
            for tables in every:
                if run(script, tables, late(script.schema))[0][1] is None:
                    self.assertEqual(run(script, tables, modes)[0], ((), None))
                    done += 1
            for name in names:
                for mode in ["each", "now", "late"][:["each", "now", "late"].index(modes[name])]:
                    way = "within" if mode == "each" else "behind"
                    address = [place[0] for place in breaks(script) if place[1:] == (name, way)][0]
                    tables = tables_in(script, address, name, way)
                    self.assertEqual(run(script, tables, late(script.schema))[0], ((), None))
                    for others in [late(script.schema), modes, {other: chance.choice(["each", "now", "late"]) for other in names}]:
                        self.assertIsNotNone(run(script, tables, {**others, name: mode})[0][1])
                    lesser += 1
        self.assertGreater(min(lesser, done), 40)


if __name__ == "__main__":
    unittest.main()
