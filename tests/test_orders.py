"""Point 93, and guarantee 11: the orders in which the statements of a script may stand."""

import itertools
import random
import unittest
from unittest import mock

from endchecks.alike import end_alike, part
from endchecks.errors import CheckError, TooMany
from endchecks.needed import needed_modes
from endchecks.orders import calm, orders
from endchecks.paths import paths
from endchecks.rowkinds import how_many
from endchecks.schemas import Schema
from endchecks.scripts import Script
from tests.cases import RaisesCase
from tests.drawn import draw_lively, draw_modes, draw_schema, draw_script
from tests.every import all_legal
from tests.samples import tree

END = ("change", "task", [("none", "boss")], {"state": "done"})
CUT = ("change", "task", [("not", ("none", "boss"))], {"boss": None})
OPEN = ("change", "task", [], {"state": "open"})
TAKE = ("take", "task", [])
U, V = [("is", "m", ["u"])], [("is", "m", ["v"])]


def put(handle, code=None):
    return ("put", handle, "task", {"state": "open", "boss": None, "code": code})


def by_definition(script, modes):
    """The orders by part, which point 90 speaks of."""
    every = sorted(itertools.permutations(range(len(script))))
    return [places for places in every if part(script, script.order(list(places)), modes, modes) is None]


def calm_by_definition(script, modes):
    needs = {places: list(needed_modes(script.order(list(places))).values()) for places in by_definition(script, modes)}
    fewest = min(need.count("late") for need in needs.values())
    needs = {places: need for places, need in needs.items() if need.count("late") == fewest}
    fewest = min(need.count("now") for need in needs.values())
    return sorted(places for places, need in needs.items() if need.count("now") == fewest)


def schema_of(*words):
    """Tables of one table with a mark of some words, and a link."""
    return {"t": {"m": ("mark", [*words]), "x": ("link", "t")}}


class OrdersCase(RaisesCase):
    def check(self, schema, body, modes, awaited, quiet=None):
        script, before = Script(schema, body), dict(modes)
        self.assertEqual(orders(script, modes), awaited)
        self.assertEqual(orders(script, modes), by_definition(script, modes))
        self.assertEqual(calm(script, modes), calm_by_definition(script, modes))
        if quiet is not None:
            self.assertEqual(calm(script, modes), quiet)
        for call in [orders, calm]:
            told = call(script, modes)
            again = list(told)
            told.append("x")
            self.assertEqual(call(script, modes), again)
        self.assertEqual([script.body(), modes], [body, before])


class OrdersTest(OrdersCase):
    def test_short(self):
        self.check(tree(), [], {}, [()], [()])
        self.check(tree(), [END], {}, [(0,)], [(0,)])
        self.check(tree(), [TAKE], {}, [(0,)], [(0,)])

    def test_two(self):
        both = [(0, 1), (1, 0)]
        self.check(tree(), [put("h"), put("i")], {}, both, both)
        # Behind CUT there are rows whose boss is taken away: these are done, too.
        self.check(tree(), [END, CUT], {}, [(0, 1)])
        self.check(tree(), [CUT, END], {}, [(0, 1)])
        self.check(tree(), [CUT, OPEN], {}, both, both)
        self.check(tree(), [END, END], {}, both, both)
        self.check(tree(), [OPEN, END], {}, [(0, 1)])
        # What fails always is alike to what fails always.
        self.check(tree(), [TAKE, CUT], {}, both)
        self.check(tree(), [put("h"), TAKE], {}, both)
        self.check(tree(), [put("h"), ("take", "task", [("row", "h")])], {}, [(0, 1)])

    def test_modes(self):
        link = ("change", "task", [], {"boss": ("new", "h")})
        self.check(tree(), [put("h"), link], {}, [(0, 1)])
        self.check(tree(), [put("h"), link], {"whole": "late"}, [(0, 1)])
        self.check(tree(), [put("h"), ("change", "task", [("not", ("row", "h"))], {"boss": ("new", "h")})], {}, [(0, 1)], [(0, 1)])
        self.check(tree(), [put("h"), ("change", "task", [("not", ("row", "h"))], {"boss": ("new", "h")})], {"whole": "late"},
                   [(0, 1), (1, 0)], [(0, 1)])

    def test_three(self):
        """All orders in which one thing stands ahead of another one; calm are those without a rule in the way."""
        schema = Schema({"t": {"m": ("mark", ["u", "v"]), "n": ("mark", ["a", "b"]), "x": ("link", "t")}},
                        [("k", "link", "t", "x", [], U), ("l", "check", "t", [])])
        turn, back = ("change", "t", [("none", "x")], {"m": "v"}), ("change", "t", [("none", "x")], {"m": "u"})
        other = ("change", "t", [], {"n": "a"})
        self.check(schema, [turn, other, back], {"k": "late"}, [(0, 1, 2), (0, 2, 1), (1, 0, 2)])
        self.check(schema, [turn, other, back], {}, [(0, 1, 2), (0, 2, 1), (1, 0, 2)])
        free = ("change", "t", [], {"x": None})
        self.check(schema, [turn, free, other], {"k": "late"}, [(0, 1, 2), (0, 2, 1), (2, 0, 1)])
        take = ("take", "t", [("not", ("none", "x"))])
        self.check(schema, [turn, take, other], {"k": "late"}, list(itertools.permutations(range(3))), [(1, 0, 2), (1, 2, 0), (2, 1, 0)])

    def test_four(self):
        body = [put("h"), CUT, put("i", ("word", "x")), put("j", ("own",))]
        self.check(tree(), body, {}, list(itertools.permutations(range(4))), list(itertools.permutations(range(4))))

    def test_late_ahead_of_now(self):
        """As few as any need "late"; of these as few as any "now"."""
        schema = Schema(schema_of("u", "v", "w"), [
            ("k", "link", "t", "x", [], [("not", ("is", "m", ["v"]))]), ("s", "some", "t", U)])
        turn, free = ("change", "t", [("none", "x"), *U], {"m": "v"}), ("take", "t", [("not", ("none", "x"))])
        self.check(Schema(schema_of("u", "v"), [("k", "link", "t", "x", U, U)]), [("change", "t", [], {"m": "v"}), ("change", "t", [], {"x": None})],
                   {"k": "late"}, [(0, 1), (1, 0)], [(1, 0)])
        modes = {"k": "late", "s": "late"}
        for body in itertools.permutations([turn, free, ("put", "h", "t", {"m": "u", "x": None})]):
            script = Script(schema, list(body))
            self.assertEqual(orders(script, modes), by_definition(script, modes))
            self.assertEqual(calm(script, modes), calm_by_definition(script, modes))
            self.assertIn((0, 1, 2), orders(script, modes))

    def test_looks(self):
        schema = Schema({"t": {"m": ("mark", ["u", "v"]), "x": ("link", "s")}, "s": {"n": ("mark", ["a", "b"])}}, [])
        look, turn = ("take", "t", [("at", "x", [("is", "n", ["a"])])]), ("change", "s", [], {"n": "b"})
        self.check(schema, [look, turn], {}, [(0, 1)])
        self.check(schema, [look, ("take", "t", U)], {}, [(0, 1), (1, 0)])

    def test_too_many_kinds(self):
        words = ["a", "b", "c", "d"]
        fields = {"m": ("mark", words), "n": ("mark", words), "t": ("tag",), "x": ("link", "s")}
        other = {"m": ("mark", words)}
        just = Script(Schema({"t": fields, "s": other}, []), [("take", "t", [])])
        more = Script(Schema({"t": fields, "s": other, "r": {}}, []), [("take", "t", [])])
        self.assertEqual([how_many(script.schema, []) for script in [just, more]], [100, 101])
        for call in [orders, calm]:
            self.assertEqual(call(just, {}), [(0,)])
            self.refused(TooMany, "limit", 100, call, more, {})
            self.assertEqual(call(more, {}, most=101), [(0,)])
            self.refused(TooMany, "limit", 99, lambda: call(just, {}, most=99))
            self.refused(TooMany, "limit", 99, lambda: call(Script(just.schema, []), {}, most=99))
            with self.assertRaises(TypeError):
                call(just, {}, 100)

    def test_too_many_paths(self):
        """In one of the orders, though it is not alike."""
        schema = Schema({"t": {"m": ("mark", ["u", "v", "w"])}}, [("s", "some", "t", [])])
        script = Script(schema, [("take", "t", []), ("take", "t", [("is", "m", ["u"])]), ("take", "t", [("is", "m", ["u", "v"])])])
        counts = {places: len(paths(script.order(list(places)), {})) for places in itertools.permutations(range(3))}
        self.assertEqual([counts[0, 1, 2], max(counts.values())], [1, 3])
        self.assertNotEqual(counts[2, 1, 0], 1)
        for call in [orders, calm]:
            call(script, {}, most=3)
            self.refused(TooMany, "limit", 2, lambda: call(script, {}, most=2))

    def test_whatever_tables_would_be_needed(self):
        """Where tables of too many rows would tell two orders apart; here already a few are."""
        with mock.patch("endchecks.paths.MOST_AT_START", 2):
            self.assertEqual(orders(Script(tree(), [END, CUT]), {}), [(0, 1)])
            self.assertEqual(calm(Script(tree(), [END, CUT]), {}), [(0, 1)])


class DrawnTest(OrdersCase):
    def draw(self, seed):
        """A script of two or three statements without blocks and switches, and modes."""
        chance = random.Random(seed)
        while True:
            schema = draw_schema(chance, 2, 3, 3) if chance.random() < 0.3 else draw_lively(chance)[0]
            script = draw_script(chance, schema, 3, 0, 0)
            single = [script.statement_at(address) for address in script.addresses()]
            try:
                script = Script(schema, single)
            except CheckError:
                continue
            if len(script) in [2, 3] and how_many(schema, script.looks()) <= 40:
                return chance, script, draw_modes(chance, schema)

    def test_alike_and_nothing_else(self):
        """Guarantee 11, by legal tables with a few ids too."""
        seen = []
        for seed in range(70):
            chance, script, modes = self.draw(seed)
            self.check(script.schema, script.body(), modes, by_definition(script, modes))
            told = orders(script, modes)
            self.assertIn(tuple(range(len(script))), told)
            for places in told:
                for tables in all_legal(script.schema, ["a", "b"], chance, 20):
                    self.held(end_alike(script, script.order(list(places)), tables, modes, modes), True)
            for places in itertools.permutations(range(len(script))):
                if places not in told:
                    other = script.order(list(places))
                    self.held(end_alike(script, other, part(script, other, modes, modes), modes, modes), False)
            seen.append((len(told) > 1, len(calm(script, modes)) < len(told)))
        self.assertEqual({*seen}, {(True, True), (True, False), (False, False)})


if __name__ == "__main__":
    unittest.main()
