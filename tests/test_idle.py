"""Point 82: checks, tries, statements and names that do nothing on any path."""

import random
import unittest

from endchecks.errors import TooMany
from endchecks.idle import idle_checks, idle_names, unentered, unreached
from endchecks.paths import paths, tables_on
from endchecks.rowkinds import how_many
from endchecks.runs import events, where
from endchecks.schemas import Schema
from endchecks.scripts import Script
from endchecks.ways import course
from tests.cases import RaisesCase
from tests.drawn import draw_lively
from tests.samples import RULES, tree

END = ("change", "task", [("none", "boss")], {"state": "done"})
CUT = ("change", "task", [("not", ("none", "boss"))], {"boss": None})
STAY = ("change", "task", [], {"state": "open"})
TAKE = ("take", "task", [])
PUT = ("put", "h", "task", {"state": "open", "boss": None, "code": ("word", "x")})
CALLS = [idle_checks, unentered, unreached, idle_names]


class IdleCase(RaisesCase):
    def check(self, body, modes, checks, tries, statements, names, rules=RULES):
        script = Script(tree(rules), body)
        awaited = [checks, tries, statements, names]
        self.assertEqual([call(script, modes) for call in CALLS], awaited)
        for call, told in zip(CALLS, awaited):
            call(script, modes).append("x")
            self.assertEqual(call(script, modes), told)
        self.assertEqual(script.body(), body)


def at(*address, of="whole some code"):
    """Tuples of an address with the names of some rules."""
    return [(address, name) for name in of.split()]


class IdleTest(IdleCase):
    def test_without_blocks(self):
        self.check([], {}, [], [], [], [])
        self.check([END], {}, at(0, of="some code"), [], [], [])
        self.check([CUT], {}, at(0), [], [], [])
        # "some" breaks always; the check of "code" behind it never comes, and neither does the next statement.
        self.check([TAKE, CUT], {}, at(0, of="whole"), [], [(1,)], [])
        self.check([("switch", ["whole"], "late"), TAKE], {}, [], [], [], [])

    def test_the_end(self):
        """Checks at the end come first."""
        self.check([CUT], {"code": "late", "whole": "late"}, at(of="whole code") + at(0, of="some"), [], [], [])
        self.check([END], {"whole": "late"}, at(0, of="some code"), [], [], [])
        self.check([END], {"some": "late"}, at(of="some") + at(0, of="code"), [], [], [])
        self.check([TAKE], {"some": "late", "code": "late"}, at(0, of="whole"), [], [], [])

    def test_order_of_the_rules(self):
        self.check([CUT], {}, at(0, of="code some whole"), [], [], [], RULES[::-1])
        body = [("try", [CUT], ["whole", "some"], []), ("try", [CUT], ["some", "whole"], [])]
        self.check(body, {}, at(0, 0, 0) + at(1, 0, 0), [(0,), (1,)], [], at(0, of="whole some") + at(1, of="whole some"))
        turned = at(0, 0, 0, of="code some whole") + at(1, 0, 0, of="code some whole")
        self.check(body, {}, turned, [(0,), (1,)], [], at(0, of="some whole") + at(1, of="some whole"), RULES[::-1])

    def test_tries(self):
        caught = [("try", [END], ["whole", "some"], [CUT])]
        self.check(caught, {}, at(0, 0, 0, of="some code") + at(0, 1, 0), [], [], at(0, of="some"))
        other = [("try", [END], ["some"], [CUT, CUT])]
        self.check(other, {}, at(0, 0, 0, of="some code"), [(0,)], [(0, 1, 0), (0, 1, 1)], at(0, of="some"))
        none = [("try", [END], [], [CUT]), TAKE]
        self.check(none, {}, at(0, 0, 0, of="some code") + at(1, of="whole"), [(0,)], [(0, 1, 0)], [])
        # Whatever comes, it is caught: so nobody comes to the end of the body.
        always = [("try", [TAKE, CUT], ["some"], [])]
        self.check(always, {}, at(0, 0, 0, of="whole"), [], [(0, 0, 1)], [])
        # In other of a try a failure is not in this try.
        behind = [("try", [TAKE], ["some", "whole"], [END, TAKE])]
        self.check(behind, {}, at(0, 0, 0, of="whole") + at(0, 1, 0, of="some code") + at(0, 1, 1, of="whole"), [], [], at(0, of="whole"))

    def test_blocks_within_blocks(self):
        inner = ("try", [END], ["whole"], [])
        body = [("try", [inner], ["whole"], [CUT])]
        self.check(body, {}, [((0, 0, 0, 0, 0), "some"), ((0, 0, 0, 0, 0), "code")], [(0,)], [(0, 1, 0)], at(0, of="whole"))
        self.check([("try", [("try", [END], ["some"], [CUT])], ["whole"], [TAKE])], {},
                   at(0, 0, 0, 0, 0, of="some code") + at(0, 1, 0, of="whole"), [(0, 0, 0)], [(0, 0, 0, 1, 0)], at(0, 0, 0, of="some"))
        # A try in other of a try, and one in a trial.
        body = [("try", [TAKE], ["some"], [inner]), ("trial", [("try", [END, PUT], ["whole"], [("trial", [TAKE])])]), CUT]
        self.check(body, {}, at(0, 0, 0, of="whole") + at(0, 1, 0, 0, 0, of="some code") + at(1, 0, 0, 0, 0, of="some code")
                   + at(1, 0, 0, 0, 1, of="whole some") + at(1, 0, 0, 1, 0, 0, 0, of="whole") + at(2), [], [], [])

    def test_trials(self):
        self.check([("trial", []), ("trial", [CUT])], {}, at(1, 0, 0), [], [], [])
        self.check([("trial", [TAKE, STAY]), CUT], {}, at(0, 0, 0, of="whole"), [], [(0, 0, 1), (1,)], [])
        self.check([("trial", [("switch", ["whole"], "late"), END]), END], {}, at(0, 0, 1, of="some code") + at(1, of="some code"), [], [], [])
        # The try in a trial that nobody comes to.
        body = [TAKE, ("trial", [("try", [CUT], ["whole"], [("trial", [])])])]
        self.check(body, {}, at(0, of="whole"), [(1, 0, 0)], [(1,), (1, 0, 0), (1, 0, 0, 0, 0), (1, 0, 0, 1, 0)], at(1, 0, 0, of="whole"))

    def test_switches(self):
        """Nobody comes to a switch behind what always fails; where it fails itself it is come to."""
        switch = ("switch", ["whole", "some"], "each")
        self.check([TAKE, switch], {}, at(0, of="whole"), [], [(1,)], [])
        self.check([END, switch], {"whole": "late"}, at(0, of="some code") + at(1, of="some"), [], [], [])
        self.check([("try", [END, switch], ["whole"], [switch])], {"whole": "late"},
                   at(0, 0, 0, of="some code") + at(0, 0, 1, of="some") + at(0, 1, 0, of="whole some"), [], [], [])
        # With "late" it checks nothing, but runs come to it.
        self.check([("switch", ["code"], "late"), TAKE, ("switch", ["code"], "late")], {}, at(1, of="whole"), [], [(2,)], [])

    def test_one_address_on_several_paths(self):
        """A check that breaks on one path only is not idle, neither is one with another way."""
        body = [("try", [END, ("switch", ["whole"], "each")], ["whole"], []), CUT]
        self.check(body, {"whole": "late"}, at(of="whole") + at(0, 0, 0, of="some code") + at(1), [], [], [])

    def test_no_legal_tables(self):
        """There are no runs."""
        rules = [("k", "check", "task", [("is", "state", ["open"])]), ("s", "some", "task", [("is", "state", ["done"])])]
        body = [("try", [END], ["s", "k"], [CUT]), ("trial", [])]
        self.check(body, {}, [], [(0,)], [(0,), (0, 0, 0), (0, 1, 0), (1,)], [((0,), "k"), ((0,), "s")], rules)

    def test_too_many(self):
        script = Script(tree(), [("try", [END], ["whole"], []), PUT])
        self.assertEqual(len(paths(script, {})), 4)
        words = ["a", "b", "c"]
        rules = [("k", "check", "t", [("not", ("is", "m", ["d"]))])]
        turns = [("change", "t", [("is", "m", [word]), ("is", "n", [other])], {"m": "d"}) for word in words for other in "ab"]
        many = Script(Schema({"t": {"m": ("mark", [*words, "d"]), "n": ("mark", ["a", "b"])}}, rules), [("try", [turn], ["k"], []) for turn in turns])
        self.assertEqual(len(paths(many, {})), 64)
        for call in CALLS:
            call(script, {}, most=16)
            self.refused(TooMany, "limit", 15, lambda: call(script, {}, most=15))
            call(many, {}, most=64)
            self.refused(TooMany, "limit", 63, lambda: call(many, {}, most=63))
            with self.assertRaises(TypeError):
                call(script, {}, 16)

    def test_limits_that_are_left_out(self):
        words = ["a", "b", "c", "d"]
        wide = {"m": ("mark", words), "n": ("mark", words), "t": ("tag",), "x": ("link", "t")}
        two = {"m": ("mark", words), "n": ("mark", words[:3]), "t": ("tag",), "x": ("link", "t")}
        for call in CALLS:
            self.assertEqual(call(Script(Schema({"t": wide, "s": two}), []), {}), [])
            self.refused(TooMany, "limit", 200, call, Script(Schema({"t": wide, "s": two, "r": {}}), []), {})


class DrawnTest(IdleCase):
    def catcher(self, script, failure):
        """The address of the innermost try in whose body a failure is, and that has the name of its rule."""
        address, rule = failure
        for many in range(len(address) - 2, 0, -2):
            statement = script.statement_at(address[:many])
            if statement[0] == "try" and address[many] == 0 and rule in statement[2]:
                return address[:many]
        self.fail(failure)

    def test_by_runs(self):
        """From tables for each path: what comes there, and what does not."""
        seen = [0, 0, 0, 0]
        for seed in range(400):
            schema, script, modes = draw_lively(random.Random(seed))
            if how_many(schema, script.looks()) > 60 or len(paths(script, modes)) > 12:
                continue
            checks, broken, met, catches = set(), set(), set(), []
            for path in paths(script, modes):
                tables = tables_on(script, modes, path)
                told = events(script, tables, modes)
                checks |= {event[:2] for event in told}
                broken |= {event[:2] for event in told if not event[3]}
                met |= {address for address, word in where(script, tables, modes).items() if word != "unmet"}
                met |= {address for address, word in course(script, modes, path)[0] if word == "keep"}
                catches += [(self.catcher(script, failure), failure[1]) for failure in path[0]]
            names = [(address, name) for address in script.tries() for name in script.statement_at(address)[2]]
            entered = [address for address, _ in catches]
            awaited = [sorted(checks - broken, key=lambda check: (check[0], schema.rank_of(check[1]))),
                       [address for address in script.tries() if address not in entered],
                       [address for address in script.addresses() if address not in met],
                       sorted(set(names) - set(catches), key=lambda check: (check[0], schema.rank_of(check[1])))]
            self.assertEqual([call(script, modes) for call in CALLS], awaited)
            seen = [many + bool(told) for many, told in zip(seen, awaited)]
        self.assertTrue(all(many > 20 for many in seen), seen)


if __name__ == "__main__":
    unittest.main()
