"""Points 60, 70, 80 to 82 and 90 to 93: how many kinds and paths there may be, with a limit and without one."""

import itertools
import unittest

from endchecks.alike import part
from endchecks.errors import TooMany
from endchecks.failures import always_fails, failing, failures, never_fails
from endchecks.idle import idle_checks, idle_names, unentered, unreached
from endchecks.lates import fails_amid, least_lates
from endchecks.needed import breaks, needed_modes, tables_in
from endchecks.orders import calm, orders
from endchecks.paths import bar, can_go, paths, tables_for, tables_on
from endchecks.rowkinds import how_many, row_kinds
from endchecks.schemas import Schema
from endchecks.scripts import Script
from endchecks.supports import supports
from endchecks.ways import course
from tests.cases import RaisesCase

WORDS = ["a", "b", "c", "d"]
DONE = ((), None)


def several(script):
    return [(script, course(script, {}, DONE))]


# What raises TooMany if there are too many kinds, whatever paths there are.
BY_KINDS = {
    "row_kinds": lambda script, **most: row_kinds(script.schema, script.looks(), **most),
    "supports": lambda script, **most: supports(several(script), **most),
    "tables_for": lambda script, **most: tables_for(several(script), **most),
    "bar": lambda script, **most: bar(several(script), **most),
    "can_go": lambda script, **most: can_go(script, {}, DONE, **most),
    "tables_on": lambda script, **most: tables_on(script, {}, DONE, **most),
}
# For scripts without blocks.
BY_KINDS_IF_PLAIN = {
    "breaks": breaks,
    "tables_in": lambda script, **most: tables_in(script, (0,), script.schema.names()[0], "behind", **most),
    "needed_modes": needed_modes,
}
# What raises it also if there are too many paths.
BY_PATHS = {
    "paths": paths, "failures": failures, "never_fails": never_fails, "always_fails": always_fails,
    "failing": lambda script, modes, **most: failing(script, modes, ((), "none"), **most),
    "idle_checks": idle_checks, "unentered": unentered, "unreached": unreached, "idle_names": idle_names,
    "part": lambda script, modes, **most: part(script, script, modes, modes, **most),
    "part of one": lambda script, modes, **most: part(script, Script(script.schema, []), modes, {}, **most),
    "part of the other": lambda script, modes, **most: part(Script(script.schema, []), script, {}, modes, **most),
    "fails_amid": fails_amid, "least_lates": least_lates,
}
# Those of a few statements, with the limit 100 where it is left out.
OF_ORDERS = {"orders": orders, "calm": calm}


TURN = ("change", "t", [("is", "m", ["a"])], {"m": "b"})


class KindsTest(RaisesCase):
    def check(self, call, just, more, limit):
        """That just so many kinds are not too many, with the limit that is left out too, and that one more are."""
        self.assertEqual([how_many(script.schema, script.looks()) for script in [just, more]], [limit, limit + 1])
        awaited = call(just)
        self.assertEqual(call(just, most=limit), awaited)
        self.assertEqual(call(just, most=400), awaited)
        for most in [1, limit - 1]:
            self.refused(TooMany, "limit", most, lambda: call(just, most=most))
        self.refused(TooMany, "limit", limit, call, more)
        call(more, most=limit + 1)

    def scripts(self, limit):
        """Scripts with so many kinds, and with one more."""
        fields = {"m": ("mark", WORDS), "n": ("mark", WORDS), "t": ("tag",), "x": ("link", "s" if limit == 100 else "t")}
        other = {"m": ("mark", WORDS)} if limit == 100 else {**fields, "n": ("mark", WORDS[:3])}
        rules = [("k", "check", "t", [("not", ("is", "m", ["d"]))])]
        return [Script(Schema({"t": fields, "s": other, **more}, rules), [TURN]) for more in [{}, {"r": {}}]]

    def test_kinds(self):
        for name, call in [*BY_KINDS.items(), *BY_KINDS_IF_PLAIN.items()]:
            with self.subTest(name):
                self.check(call, *self.scripts(200), 200)

    def test_kinds_ahead_of_paths(self):
        for name, call in BY_PATHS.items():
            with self.subTest(name):
                self.check(lambda script, **most: call(script, {}, **most), *self.scripts(200), 200)

    def test_kinds_of_orders(self):
        for name, call in OF_ORDERS.items():
            with self.subTest(name):
                self.check(lambda script, **most: call(script, {}, **most), *self.scripts(100), 100)

    def test_kinds_by_looks(self):
        """A row that looks has one kind for each of the other row; for two scripts the looks of both count."""
        schema = Schema({"t": {"m": ("mark", ["u", "v"]), "x": ("link", "s")}, "s": {"n": ("mark", WORDS)}}, [("k", "check", "t", [])])
        look, plain = ("take", "t", [("at", "x", [("is", "n", ["a"])])]), ("take", "t", [])
        for body, many in [([look], 16), ([plain], 10)]:
            script = Script(schema, body)
            self.assertEqual(how_many(schema, script.looks()), many)
            every = [lambda call=call, **most: call(script, **most) for call in [*BY_KINDS.values(), *BY_KINDS_IF_PLAIN.values()]]
            every += [lambda call=call, **most: call(script, {}, **most) for call in [*BY_PATHS.values(), *OF_ORDERS.values()]]
            for call in every:
                call(most=many)
                self.refused(TooMany, "limit", many - 1, lambda: call(most=many - 1))
        one, other = Script(schema, [look]), Script(schema, [plain])
        for pair in [(one, other), (other, one)]:
            part(*pair, {}, {}, most=16)
            self.refused(TooMany, "limit", 15, lambda: part(*pair, {}, {}, most=15))


def turn(table, word):
    return ("change", table, [("is", "m", [word])], {"m": "d"})


def tried(table, word, *names):
    return ("try", [turn(table, word)], [*names], [])


def many_paths(many):
    """A script with 200 or 201 paths: what a statement can break does not hang on the others.

    Behind the last statement there is one path. A try over s doubles how many there are, one over t makes them four
    times as many, or three times and one more if it lets a failure out; a statement over s adds one.
    """
    links = [("k" + word, "link", "t", "x", [("is", "n", [word])], [("not", ("is", "m", ["d"]))]) for word in "abc"]
    fields = {"m": ("mark", WORDS), "n": ("mark", WORDS[:3]), "x": ("link", "t")}
    schema = Schema({"t": fields, "s": {"m": ("mark", WORDS)}}, [*links, ("e", "check", "s", [("not", ("is", "m", ["d"]))])])
    body = [tried("t", "a", "ka", "kb", "kc"), tried("s", "a", "e"), tried("t", "b", "ka", "kb"), tried("t", "c", "kc", "kb", "ka"), tried("s", "b", "e")]
    if many == 201:
        body.insert(0, turn("s", "c"))
    return Script(schema, body)


class PathsTest(RaisesCase):
    def test_paths(self):
        for many in [200, 201]:
            script = many_paths(many)
            self.assertEqual([len(paths(script, {}, most=400)), how_many(script.schema, [])], [many, 52])
            self.assertEqual(len({*paths(script, {}, most=400)}), many)
        just, more = many_paths(200), many_paths(201)
        for name, call in BY_PATHS.items():
            with self.subTest(name):
                awaited = call(just, {})
                self.assertEqual(call(just, {}, most=200), awaited)
                for most in [52, 199]:
                    self.refused(TooMany, "limit", most, lambda: call(just, {}, most=most))
                self.refused(TooMany, "limit", 51, lambda: call(just, {}, most=51))
                self.refused(TooMany, "limit", 200, call, more, {})
                call(more, {}, most=201)

    def test_what_does_not_count_paths(self):
        script = many_paths(201)
        for name, call in BY_KINDS.items():
            with self.subTest(name):
                self.assertEqual(call(script), call(script, most=52))
                self.refused(TooMany, "limit", 51, lambda: call(script, most=51))

    def test_paths_of_orders(self):
        """In any of the orders, whether it is alike or not."""
        schema = Schema({"t": {"c": ("tag",)}}, [("k", "unique", "t", "c")])
        puts = [("put", handle, "t", {"c": ("word", handle)}) for handle in "hij"]
        for body, counts in [([("take", "t", []), *puts], [1, 2, 3, 4]), ([*puts, ("take", "t", [])], [1, 2, 3, 4]), (puts, [4])]:
            script = Script(schema, body)
            many = [len(paths(script.order(list(places)), {})) for places in itertools.permutations(range(len(body)))]
            self.assertEqual([sorted({*many}), how_many(schema, [])], [counts, 2])
            for call in OF_ORDERS.values():
                self.assertEqual(call(script, {}, most=4), call(script, {}))
                for most in [1, 2, 3]:
                    self.refused(TooMany, "limit", most, lambda: call(script, {}, most=most))


class PassedTest(RaisesCase):
    def test_by_keyword_only(self):
        script = Script(Schema({"t": {"m": ("mark", ["u", "v"])}}, [("k", "check", "t", [])]), [("take", "t", [])])
        for call in [lambda: row_kinds(script.schema, [], 9), lambda: supports(several(script), 9), lambda: tables_for(several(script), [], 9),
                     lambda: bar(several(script), 9), lambda: can_go(script, {}, DONE, 9), lambda: tables_on(script, {}, DONE, 9),
                     lambda: tables_in(script, (0,), "k", "behind", 9), lambda: part(script, script, {}, {}, 9), lambda: failing(script, {}, ((0,), "k"), 9),
                     lambda: breaks(script, 9), lambda: needed_modes(script, 9)]:
            self.assertRaises(TypeError, call)
        for call in [paths, failures, never_fails, always_fails, idle_checks, unentered, unreached, idle_names, fails_amid, least_lates, orders, calm]:
            self.assertRaises(TypeError, call, script, {}, 9)


if __name__ == "__main__":
    unittest.main()
