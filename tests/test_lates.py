"""Point 92: which rules must be late for a script not to fail ahead of its end."""

import itertools
import random
import unittest
from unittest import mock

from endchecks.errors import Full, TooMany
from endchecks.failures import failures
from endchecks.lates import fails_amid, least_lates, put_off
from endchecks.paths import paths
from endchecks.rowkinds import how_many
from endchecks.runs import run
from endchecks.schemas import Schema
from endchecks.scripts import Script
from endchecks.spots import is_legal
from tests.cases import RaisesCase
from tests.drawn import draw_lively
from tests.every import all_legal
from tests.samples import RULES, tree

END = ("change", "task", [("none", "boss")], {"state": "done"})
CUT = ("change", "task", [("not", ("none", "boss"))], {"boss": None})
TAKE = ("take", "task", [])
SOME = ("take", "task", [("none", "boss")])
TWICE = ("put", "h", "task", {"state": "open", "boss": None, "code": ("word", "x")})
U, V = [("is", "m", ["u"])], [("is", "m", ["v"])]


class LatesCase(RaisesCase):
    def look_at(self, script, modes):
        """That what is told is right by the paths and by runs; returns the least failure or None, and the lists."""
        told = fails_amid(script, modes)
        amid = [failure[:2] for failure in failures(script, modes) if not failure[2] and failure[0] != ()]
        if told is None:
            self.assertEqual(amid, [])
        else:
            self.assertIsInstance(told, tuple)
            failure, tables = told
            self.assertEqual(failure, amid[0])
            self.assertTrue(is_legal(tables))
            self.assertEqual(run(script, tables, modes)[0][1], failure)
        return told and told[0], self.least(script, modes)

    def least(self, script, modes):
        names = sorted(script.schema.names())
        lists = [list(some) for many in range(len(names) + 1) for some in itertools.combinations(names, many)]
        doing = [some for some in lists if fails_amid(script, {**modes, **{name: "late" for name in some}}) is None]
        awaited = [some for some in doing if not any(set(less) < set(some) for less in doing)]
        self.assertEqual(least_lates(script, modes), awaited)
        return awaited

    def check(self, body, modes, failure, lists, rules=RULES):
        script = Script(tree(rules), body)
        before = dict(modes)
        self.assertEqual(self.look_at(script, modes), (failure, lists))
        self.assertEqual(modes, before)
        told = least_lates(script, modes)
        for some in told:
            some.append("x")
        told.append("x")
        self.assertEqual(least_lates(script, modes), lists)


class FailsAmidTest(LatesCase):
    def test_none(self):
        self.check([], {}, None, [[]])
        self.check([CUT], {}, None, [[]])
        self.check([("try", [END], ["whole"], [])], {}, None, [[]])
        self.check([("trial", [CUT]), ("switch", ["whole"], "each")], {"code": "each"}, None, [[]])

    def test_at_the_end_alone(self):
        self.check([END], {"whole": "late"}, None, [[]])
        self.check([END, TAKE], {"whole": "late", "some": "late"}, None, [[]])
        self.check([END], {"some": "late"}, ((0,), "whole"), [["whole"]])

    def test_least(self):
        """By the address, then in the order of the rules."""
        self.check([END], {}, ((0,), "whole"), [["whole"]])
        self.check([SOME], {}, ((0,), "whole"), [["some", "whole"]])
        self.check([SOME], {}, ((0,), "some"), [["some", "whole"]], RULES[::-1])
        self.check([TWICE, END], {}, ((0,), "code"), [["code", "whole"]])
        self.check([END, TWICE], {}, ((0,), "whole"), [["code", "whole"]])
        self.check([END, SOME], {"whole": "late"}, ((1,), "some"), [["some"]])
        self.check([("trial", [("try", [TWICE], ["whole"], [])]), END], {}, ((0, 0, 0, 0, 0), "code"), [["code", "whole"]])
        # What is caught is none; what fails in other is.
        self.check([("try", [END], ["whole"], [SOME])], {}, ((0, 1, 0), "whole"), [["some", "whole"], ["whole"]][1:])

    def test_no_legal_tables(self):
        rules = [("k", "check", "task", [("is", "state", ["open"])]), ("s", "some", "task", [("is", "state", ["done"])])]
        self.check([TAKE], {}, None, [[]], rules)

    def test_full(self):
        """Where the tables would have too many rows; here already a few are."""
        script = Script(tree(), [END])
        with mock.patch("endchecks.paths.MOST_AT_START", 2):
            self.refused(Full, "limit", 2, fails_amid, script, {})
            self.assertEqual(least_lates(script, {}), [["whole"]])


class PutOffTest(unittest.TestCase):
    def test_modes(self):
        modes = {"whole": "each", "code": "now"}
        wanted = [([], {"code": "now", "whole": "each"}), (["whole"], {"code": "now", "whole": "late"}),
                  (["some"], {"code": "now", "some": "late", "whole": "each"}),
                  (["some", "whole", "code"], {"code": "late", "some": "late", "whole": "late"})]
        for names, awaited in wanted:
            told = put_off(modes, names)
            self.assertEqual(told, awaited)
            self.assertEqual(list(told), sorted(awaited))
            told["code"] = "x"
        self.assertEqual(modes, {"whole": "each", "code": "now"})
        self.assertEqual(list(put_off(modes, [])), ["code", "whole"])
        self.assertEqual(put_off({}, []), {})
        self.assertEqual(put_off({}, ["b", "a"]), {"a": "late", "b": "late"})


class LeastLatesTest(LatesCase):
    def test_none_will_do(self):
        """A switch checks rules, late or not."""
        self.check([END, ("switch", ["whole"], "now")], {}, ((0,), "whole"), [])
        self.check([END, ("switch", ["whole"], "now"), CUT], {"whole": "late"}, ((1,), "whole"), [])

    def test_several(self):
        """Each of them will do: with one rule late, the body fails at the other one, which is caught."""
        schema = Schema({"t": {"m": ("mark", ["u", "v"]), "x": ("link", "t")}}, [
            ("k", "check", "t", U), ("l", "some", "t", U), ("n", "check", "t", [("is", "m", ["u"])])])
        turn = ("change", "t", [], {"m": "v"})
        script = Script(schema, [turn])
        self.assertEqual(self.look_at(script, {}), (((0,), "k"), [["k", "l", "n"]]))
        script = Script(schema, [("try", [turn], ["k"], [])])
        self.assertEqual(self.look_at(script, {}), (None, [[]]))
        script = Script(schema, [("try", [turn], ["l"], [])])
        self.assertEqual(self.look_at(script, {}), (((0, 0, 0), "k"), [["k"]]))
        script = Script(schema, [("try", [turn], ["l", "n"], [])])
        self.assertEqual(self.look_at(script, {}), (((0, 0, 0), "k"), [["k"]]))
        script = Script(schema, [("try", [("try", [turn], ["l"], [turn])], ["n"], [])])
        self.assertEqual(self.look_at(script, {}), (((0, 0, 0, 0, 0), "k"), [["k", "l"]]))

    def test_a_greater_list_may_not_do(self):
        """What is put off lets a body pass, and what comes behind it fails."""
        turn = ("change", "task", [("none", "boss")], {"state": "done"})
        body = [("try", [turn, ("switch", ["whole"], "late"), TAKE], ["whole"], []), END]
        self.check(body, {}, ((0, 0, 2), "some"), [["some", "whole"]])
        schema = Schema({"t": {"m": ("mark", ["u", "v"])}}, [("k", "check", "t", U), ("s", "some", "t", U)])
        body = [("try", [("change", "t", [], {"m": "v"}), ("switch", ["s"], "now")], ["k"], [])]
        script = Script(schema, body)
        self.assertEqual(self.look_at(script, {}), (None, [[]]))
        self.assertIsNotNone(fails_amid(script, put_off({}, ["k"])))
        self.assertIsNotNone(fails_amid(script, put_off({}, ["k", "s"])))
        self.assertIsNone(fails_amid(script, put_off({}, ["s"])))

    def test_two_lists(self):
        """What fails is caught, and then something else fails: it is enough to put off the one or the other."""
        self.check([("try", [END], ["whole"], [TAKE])], {}, ((0, 1, 0), "some"), [["some"], ["whole"]])
        self.check([("try", [TWICE], ["whole"], []), ("try", [END], ["whole"], [TAKE])], {"some": "each"}, ((0, 0, 0), "code"),
                   [["code", "some"], ["code", "whole"]])
        self.check([("try", [END], ["whole"], [TWICE, TAKE])], {}, ((0, 1, 0), "code"), [["whole"], ["code", "some"]])

    def test_lists_of_other_lengths(self):
        """By their length, then ascending; and "k", "l", "s" together will not do."""
        schema = Schema({"t": {"m": ("mark", ["u", "v"])}}, [("l", "check", "t", U), ("s", "some", "t", U), ("k", "check", "t", U)])
        turn, check = ("change", "t", [], {"m": "v"}), ("switch", ["s"], "now")
        script = Script(schema, [("try", [turn, check], ["k"], [])])
        self.assertEqual(self.look_at(script, {}), (((0, 0, 0), "l"), [["l", "s"]]))
        self.assertIsNotNone(fails_amid(script, put_off({}, ["k", "l", "s"])))
        script = Script(schema, [("try", [("try", [turn], ["k"], [turn]), check], ["l"], [])])
        self.assertEqual(self.look_at(script, {}), (None, [[]]))
        script = Script(schema, [("try", [("try", [turn], ["l"], [turn]), check], ["k", "s"], []), ("try", [turn], ["s", "l"], [])])
        found = self.look_at(script, {})[1]
        self.assertEqual(found, sorted(found, key=lambda some: (len(some), some)))

    def test_modes_as_they_are(self):
        self.check([END, CUT], {"whole": "each"}, ((0,), "whole"), [["whole"]])
        self.check([END, CUT, TWICE], {"whole": "late"}, ((2,), "code"), [["code"]])
        # "each" is put off, "now" would have done.
        schema = Schema({"t": {"m": ("mark", ["u", "v"]), "x": ("link", "t")}}, [("k", "link", "t", "x", U, U)])
        script = Script(schema, [("change", "t", [], {"m": "v"})])
        self.assertEqual(self.look_at(script, {"k": "each"}), (((0,), "k"), [["k"]]))
        self.assertEqual(self.look_at(script, {"k": "now"}), (None, [[]]))


class TooManyTest(LatesCase):
    def tries(self):
        words = ["a", "b", "c"]
        schema = Schema({"t": {"m": ("mark", [*words, "d"]), "n": ("mark", ["a", "b"])}}, [("k", "check", "t", [("not", ("is", "m", ["d"]))])])
        return schema, [("try", [("change", "t", [("is", "m", [word]), ("is", "n", [other])], {"m": "d"})], ["k"], [])
                        for word in words for other in "ab"]

    def test_kinds(self):
        script = Script(tree(), [END])
        for call in [fails_amid, least_lates]:
            call(script, {}, most=16)
            self.refused(TooMany, "limit", 15, lambda: call(script, {}, most=15))
            with self.assertRaises(TypeError):
                call(script, {}, 16)

    def test_paths(self):
        """least_lates looks at modes as they are first, whatever comes with others."""
        schema, turns = self.tries()
        script = Script(schema, turns)
        for call in [fails_amid, least_lates]:
            call(script, {}, most=64)
            self.refused(TooMany, "limit", 63, lambda: call(script, {}, most=63))
        self.assertEqual([len(paths(script, modes)) for modes in [{}, {"k": "late"}]], [64, 2])

    def test_few_paths_and_then_many(self):
        """A rule fails always: once it is put off there are many paths. If it is caught, nothing must be put off."""
        schema, turns = self.tries()
        schema = Schema({"t": {**schema.fields("t"), "n": ("mark", ["a", "b", "c"])}},
                        [*schema.rules(), ("s", "some", "t", [("is", "n", ["c"])])])
        first = ("change", "t", [("is", "n", ["c"])], {"n": "a"})
        script = Script(schema, [first, *turns[:5]])
        self.assertEqual([len(paths(script, modes)) for modes in [{}, {"s": "late"}]], [1, 28])
        self.refused(TooMany, "limit", 27, lambda: least_lates(script, {}, most=27))
        self.assertEqual(least_lates(script, {}, most=28), [["s"]])
        script = Script(schema, [("try", [first, *turns[:5]], ["s"], [])])
        self.assertEqual([len(paths(script, modes)) for modes in [{}, {"s": "late"}]], [1, 28])
        self.assertEqual(least_lates(script, {}, most=12), [[]])

    def test_limits_that_are_left_out(self):
        words = ["a", "b", "c", "d"]
        wide = {"m": ("mark", words), "n": ("mark", words), "t": ("tag",), "x": ("link", "t")}
        two = {"m": ("mark", words), "n": ("mark", words[:3]), "t": ("tag",), "x": ("link", "t")}
        for call, awaited in [(fails_amid, None), (least_lates, [[]])]:
            self.assertEqual(call(Script(Schema({"t": wide, "s": two}), []), {}), awaited)
            self.refused(TooMany, "limit", 200, call, Script(Schema({"t": wide, "s": two, "r": {}}), []), {})


class DrawnTest(LatesCase):
    def test_drawn(self):
        seen = {}
        for seed in range(220):
            chance = random.Random(seed)
            schema, script, modes = draw_lively(chance)
            if how_many(schema, script.looks()) > 60 or len(paths(script, modes)) > 12:
                continue
            failure, lists = self.look_at(script, modes)
            for word in ["never" if failure is None else "amid", f"lists {len(lists)}"]:
                seen[word] = seen.get(word, 0) + 1
            for tables in all_legal(schema, ["a", "b"], chance, 30):
                end = run(script, tables, modes)[0][1]
                self.assertTrue(end is None or end[0] == () or failure is not None)
                for some in lists:
                    end = run(script, tables, put_off(modes, some))[0][1]
                    self.assertTrue(end is None or end[0] == ())
        self.assertGreater(min(seen["never"], seen["amid"], seen["lists 0"] * 10, seen["lists 1"]), 20, seen)


if __name__ == "__main__":
    unittest.main()
