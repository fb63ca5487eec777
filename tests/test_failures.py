"""Point 81: failures that runs have."""

import random
import unittest

from endchecks.errors import TooMany
from endchecks.failures import always_fails, failing, failures, never_fails
from endchecks.paths import paths
from endchecks.rowkinds import how_many
from endchecks.runs import run
from endchecks.schemas import Schema
from endchecks.scripts import Script
from endchecks.spots import is_legal
from tests.cases import RaisesCase
from tests.drawn import draw_legal, draw_lively
from tests.samples import RULES, tree

END = ("change", "task", [("none", "boss")], {"state": "done"})
CUT = ("change", "task", [("not", ("none", "boss"))], {"boss": None})
TAKE = ("take", "task", [])
SOME = ("take", "task", [("none", "boss")])
TWICE = ("put", "h", "task", {"state": "open", "boss": None, "code": ("word", "x")})


class FailuresTest(RaisesCase):
    def check(self, body, modes, awaited, never, always, rules=RULES):
        script = Script(tree(rules), body)
        told = failures(script, modes)
        self.assertEqual(told, awaited)
        self.assertTrue(all(isinstance(failure[2], bool) for failure in told))
        self.held(never_fails(script, modes), never)
        self.held(always_fails(script, modes), always)
        for address, rule, _ in told:
            self.failed(script, modes, (address, rule))
        for address in [(), *script.addresses()]:
            for name in script.schema.names():
                if (address, name) not in [failure[:2] for failure in told]:
                    self.assertIsNone(failing(script, modes, (address, name)))
        told.append("x")
        self.assertEqual(failures(script, modes), awaited)

    def failed(self, script, modes, failure):
        tables = failing(script, modes, failure)
        self.assertTrue(is_legal(tables))
        caught, end = run(script, tables, modes)[0]
        self.assertIn(failure, [*caught, end])

    def test_caught_and_not(self):
        self.check([], {}, [], True, False)
        self.check([CUT], {}, [], True, False)
        self.check([END], {}, [((0,), "whole", False)], False, False)
        self.check([TAKE], {}, [((0,), "some", False)], False, True)
        self.check([("try", [TAKE], ["some"], [])], {}, [((0, 0, 0), "some", True)], True, False)
        self.check([("try", [TAKE], ["some"], [TAKE])], {}, [((0, 0, 0), "some", True), ((0, 1, 0), "some", False)], False, True)
        self.check([("try", [TAKE], ["whole"], []), END], {}, [((0, 0, 0), "some", False)], False, True)
        self.check([("trial", [TWICE])], {}, [((0, 0, 0), "code", False)], False, False)

    def test_order(self):
        """Addresses ascend, that of the end ahead of all; for one address the rules are in their order."""
        body = [("try", [END, SOME], ["whole", "some"], [END]), TWICE]
        late = {"some": "late"}
        self.check(body, {}, [((0, 0, 0), "whole", True), ((0, 0, 1), "some", True), ((0, 1, 0), "whole", False), ((1,), "code", False)],
                   False, False)
        self.check(body, late, [((0, 0, 0), "whole", True), ((0, 1, 0), "whole", False), ((1,), "code", False)], False, False)
        self.check(body[:1], late, [((), "some", False), ((0, 0, 0), "whole", True), ((0, 1, 0), "whole", False)], False, False)
        both = [("change", "task", [("not", ("none", "code"))], {"state": "done"}), SOME]
        late = {name: "late" for name in ["whole", "some"]}
        self.check(both, late, [((), "whole", False), ((), "some", False)], False, False)
        self.check(both, late, [((), "some", False), ((), "whole", False)], False, False, RULES[::-1])

    def test_at_one_address(self):
        body = [("take", "task", [("none", "boss")])]
        self.check(body, {}, [((0,), "whole", False), ((0,), "some", False)], False, False)
        self.check(body, {}, [((0,), "some", False), ((0,), "whole", False)], False, False, RULES[::-1])

    def test_no_legal_tables(self):
        """There are no runs: none of them fails, and none does not."""
        rules = [("k", "check", "task", [("is", "state", ["open"])]), ("s", "some", "task", [("is", "state", ["done"])])]
        self.check([TAKE], {}, [], True, True, rules)

    def test_failing_of_what_never_comes(self):
        script = Script(tree(), [END])
        for failure in [((0,), "some"), ((1,), "whole"), ((), "whole"), ((0, 0, 0), "whole"), ((0,), "other")]:
            self.assertIsNone(failing(script, {}, failure))
        self.assertIsNotNone(failing(script, {}, ((0,), "whole")))

    def test_too_many(self):
        script = Script(tree(), [END, TWICE])
        many = len(paths(script, {}))
        self.assertEqual(many, 3)
        calls = [failures, never_fails, always_fails, lambda script, modes, most: failing(script, modes, ((0,), "whole"), most=most)]
        for call in calls:
            call(script, {}, most=16)
            self.refused(TooMany, "limit", 15, lambda: call(script, {}, most=15))
        words = ["a", "b", "c", "d"]
        fields = {"m": ("mark", words), "n": ("mark", words)}
        rules = [("k", "check", "t", [("not", ("is", "m", ["d"])), ("not", ("is", "n", ["d"]))])]
        turns = [("change", "t", [("is", "m", [word]), ("is", "n", [other])], {"m": "d"}) for word in "abc" for other in "ab"]
        script = Script(Schema({"t": fields}, rules), [("try", [turn], ["k"], []) for turn in turns])
        for call in calls[:3]:
            call(script, {}, most=64)
            self.refused(TooMany, "limit", 63, lambda: call(script, {}, most=63))
        failure = ((0, 0, 0), "k")
        self.assertIsNotNone(failing(script, {}, failure, most=64))
        self.refused(TooMany, "limit", 63, lambda: failing(script, {}, failure, most=63))


    def test_two_hundred_kinds(self):
        words = ["a", "b", "c", "d"]
        wide = {"m": ("mark", words), "n": ("mark", words), "t": ("tag",), "x": ("link", "t")}
        two = {"m": ("mark", words), "n": ("mark", words[:3]), "t": ("tag",), "x": ("link", "t")}
        calls = [failures, never_fails, always_fails, lambda script, modes: failing(script, modes, ((0,), "k"))]
        for call in calls:
            call(Script(Schema({"t": wide, "s": two}), []), {})
            self.refused(TooMany, "limit", 200, call, Script(Schema({"t": wide, "s": two, "r": {}}), []), {})


class DrawnTest(RaisesCase):
    def test_drawn(self):
        seen = []
        for seed in range(250):
            chance = random.Random(seed)
            schema, script, modes = draw_lively(chance)
            if how_many(schema, script.looks()) > 60:
                continue
            every = paths(script, modes)
            told = failures(script, modes)
            awaited = {(*failure, True) for path in every for failure in path[0]}
            awaited |= {(*path[1], False) for path in every if path[1]}
            self.assertEqual({*told}, awaited)
            names = script.schema.names()
            self.assertEqual(told, sorted(told, key=lambda failure: (failure[0], names.index(failure[1]))))
            self.held(never_fails(script, modes), all(path[1] is None for path in every))
            self.held(always_fails(script, modes), all(path[1] is not None for path in every))
            for address, rule, is_caught in told[:3]:
                tables = failing(script, modes, (address, rule))
                path = run(script, tables, modes)[0]
                self.assertIn((address, rule), path[0] if is_caught else [path[1]])
                seen.append(is_caught)
            tables = draw_legal(chance, schema)
            if tables is not None:
                caught, end = run(script, tables, modes)[0]
                self.assertEqual({(*failure, True) for failure in caught} - {*told}, set())
                self.assertTrue(end is None or (*end, False) in told)
        self.assertEqual({*seen}, {True, False})


if __name__ == "__main__":
    unittest.main()
