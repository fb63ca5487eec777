"""Point 71: partners, needed kinds, and tables with three rows of each of them."""

import random
import unittest

from endchecks.errors import Full
from endchecks.hubs import hub, needed, partners
from endchecks.names import is_name
from endchecks.rowkinds import how_many, kind_of
from endchecks.schemas import Schema
from endchecks.scripts import Script
from endchecks.spots import spots
from endchecks.supports import supports
from endchecks.ways import course, open_course
from tests.cases import RaisesCase
from tests.drawn import draw_lively
from tests.samples import tree
from tests.test_supports import GONE, NONE, OTHER, SELF, U, V, links_of, looking, looks_of, well_linked
from tests.test_ways import paths_by_form


def words_of(several):
    statements = [script.statement_at(address) for script, _ in several for address in script.addresses()]
    rows = [statement[3] for statement in statements if statement[0] == "put"]
    return [value[1] for row in rows for value in row.values() if isinstance(value, tuple) and value[0] == "word"]


class HubCase(RaisesCase):
    def look_at(self, several, kept, kinds, tables):
        """That tables are a hub of kinds."""
        schema, looks = several[0][0].schema, looks_of(several)
        every = needed(several, kept, kinds)
        self.assertEqual(tables.schema, schema)
        found = {ident: kind_of(tables, looks, ident) for ident in tables.ids()}
        self.assertEqual(sorted(found.values()), sorted(every * 3))
        self.assertTrue(all(is_name(ident) for ident in found))
        names, nobodies = [], []
        told = {kind: partners(several, kept, kind) for kind in every}
        for ident, kind in found.items():
            row, others = tables[kind[0], ident], []
            names += [row[tag] for tag in schema.tags(kind[0]) if row[tag] is not None]
            for (field, link), partner in zip(links_of(several, kind), told[kind]):
                if partner is None:
                    self.assertIn(link, [NONE, SELF, GONE])
                else:
                    self.assertEqual(found[tables.target(kind[0], ident, field)], partner)
                    self.assertNotEqual(row[field], ident)
                    others.append(row[field])
                if link == GONE:
                    nobodies.append(row[field])
            self.assertEqual(len({*others}), len(others))
        self.assertEqual([len({*names}), len({*nobodies})], [len(names), len(nobodies)])
        self.assertEqual([{*names} & {*words_of(several)}, {*nobodies} & {*found}], [set(), set()])
        self.assertTrue(all(is_name(name) for name in names + nobodies))
        for rule in schema.rules():
            self.assertTrue(rule[1] == "some" or spots(tables, rule[0]) == [])

    def check(self, several, kept, kinds):
        before = [list(kept), list(kinds)]
        tables = hub(several, kept, kinds)
        self.look_at(several, kept, kinds, tables)
        self.assertEqual([list(kept), list(kinds)], before)
        return tables


class PartnersTest(HubCase):
    def test_partners(self):
        script = looking()
        several = [(script, open_course(script, []))]
        kept = supports(several)[0]
        far = ("r", ("u",), (OTHER,), ())
        self.assertEqual(partners(several, kept, ("t", ("u",), (("at", far),), ())), [far])
        for link in [NONE, GONE]:
            self.assertEqual(partners(several, kept, ("t", ("u",), (link,), ())), [None])
        self.assertEqual(partners(several, kept, far), [min(kind for kind in kept if kind[0] == "t")])

    def test_the_least_of_kept(self):
        schema = Schema({"t": {"m": ("mark", ["u", "v", "w"]), "x": ("link", "t"), "y": ("link", "t")}}, [
            ("k", "link", "t", "x", U, V), ("l", "link", "t", "y", [], [("not", ("is", "m", ["u"]))])])
        script = Script(schema, [("change", "t", [("none", "x")], {"m": "w"})])
        several = [(script, open_course(script, [(1, (0,), "k", "behind", True)]))]
        both = ("t", ("u",), (OTHER, OTHER), ())
        few = [both, ("t", ("v",), (SELF, NONE), ()), ("t", ("w",), (NONE, NONE), ()), ("t", ("v",), (NONE, NONE), ())]
        for order in [few, few[::-1]]:
            self.assertEqual(partners(several, order, both), [few[1], few[3]])
            self.assertEqual(needed(several, order, [both]), sorted([few[0], few[1], few[3]]))
            self.assertEqual(needed(several, order, []), [])
            self.assertEqual(needed(several, order, [few[1], few[1]]), [few[1]])
            self.check(several, order, [both])

    def test_partners_of_partners(self):
        script = Script(Schema({"t": {"m": ("mark", ["u", "v", "w"]), "x": ("link", "t")}}, [
            ("k", "link", "t", "x", U, V), ("l", "link", "t", "x", V, [("is", "m", ["w"])])]), [])
        several = [(script, ([], []))]
        u, v, w, other = [("t", (word,), (link,), ()) for word, link in [("u", OTHER), ("v", OTHER), ("w", NONE), ("w", GONE)]]
        kept = [u, v, w]
        for kinds, awaited in [([u], [u, v, w]), ([v], [v, w]), ([w], [w]), ([u, w], [u, v, w]), ([], [])]:
            self.assertEqual(needed(several, kept, kinds), awaited)
            self.check(several, kept, kinds)
        self.assertEqual(needed(several, [*kept, other], [u]), [u, v, other])

    def test_all_courses(self):
        """A partner is linked well in each of the courses."""
        schema = Schema({"t": {"m": ("mark", ["u", "v", "w"]), "x": ("link", "t")}}, [("k", "link", "t", "x", [], U)])
        one = Script(schema, [("change", "t", [("is", "m", ["u"]), ("none", "x")], {"m": "v"})])
        two = Script(schema, [("change", "t", [], {"m": "u"})])
        first, second = [(script, open_course(script, [(1, (0,), "k", "behind", True)])) for script in [one, two]]
        kind, none, own = ("t", ("v",), (OTHER,), ()), ("t", ("u",), (NONE,), ()), ("t", ("u",), (SELF,), ())
        kept = [kind, none, own]
        self.assertEqual(partners([second], kept, kind), [none])
        self.assertEqual(partners([first], kept, kind), [own])
        self.assertEqual([partners(several, kept, kind) for several in [[first, second], [second, first]]], [[own], [own]])

    def test_results_are_new(self):
        script = Script(tree(), [])
        several = [(script, ([], []))]
        kept = supports(several)[0]
        partners(several, kept, kept[0]).append("x")
        needed(several, kept, kept).append("x")
        self.assertEqual([partners(several, kept, kept[0]), needed(several, kept, kept)], [[None], kept])
        one = hub(several, kept, kept)
        one.drop("task", one.ids()[0])
        self.assertEqual(len(hub(several, kept, kept)), 3 * len(kept))


class HubTest(HubCase):
    def test_the_example(self):
        script = Script(tree(), [("change", "task", [("none", "boss")], {"state": "done"})])
        several = [(script, course(script, {}, ((), ((0,), "whole"))))]
        kept = supports(several)[0]
        self.assertEqual(len(self.check(several, kept, kept[2:3])), 6)
        self.assertEqual(len(self.check(several, kept, kept)), 30)
        self.assertEqual(len(self.check(several, kept, [])), 0)

    def test_words_of_puts(self):
        """Whatever names there would be without it, they are not taken if a put has them."""
        rules = [("k", "unique", "t", "a")]
        schema = Schema({"t": {"a": ("tag",), "b": ("tag",), "x": ("link", "t")}}, rules)
        plain = Script(schema, [])
        kept = supports([(plain, ([], []))])[0]
        words = hub([(plain, ([], []))], kept, kept).names()
        self.assertGreater(len(words), 20)
        for at in range(0, len(words) - 7, 8):
            puts = [("put", handle, "t", {"a": ("word", words[at + 2 * turn]), "b": ("word", words[at + 2 * turn + 1]), "x": None})
                    for turn, handle in enumerate(["f", "g", "h", "i"])]
            script = Script(schema, [("try", puts[:2], [], []), ("trial", puts[2:])])
            for several in [[(script, ([], []))], [(plain, ([], [])), (script, ([], []))]]:
                self.assertEqual(len({*words_of(several)}), 8)
                self.check(several, kept, kept)

    def several_of(self, many, link=NONE):
        """A script by which that many kinds stand, each by itself: at most 72."""
        words = ["a", "b", "c", "d"]
        schema = Schema({"t": {"m": ("mark", words), "n": ("mark", words), "x": ("link", "t"), "a": ("tag",)}}, [])
        script = Script(schema, [])
        several = [(script, ([], []))]
        kept = [kind for kind in supports(several)[0] if kind[2] in [(NONE,), (SELF,), (GONE,)]]
        return several, kept[:many]

    def test_66_kinds_and_67(self):
        several, kept = self.several_of(67)
        self.assertEqual(len(kept), 67)
        self.assertEqual(len(self.check(several, kept, kept[:66])), 198)
        self.refused(Full, "limit", 200, hub, several, kept, kept)
        self.assertEqual(len(self.check(several, kept, kept[1:])), 198)

    def test_needed_kinds_count(self):
        several, kept = self.several_of(66)
        kind = ("t", ("a", "a"), (OTHER,), (True,))
        self.assertEqual(len(self.check(several, kept + [kind], kept[1:])), 195)
        self.refused(Full, "limit", 200, hub, several, kept + [kind], kept + [kind])
        least = partners(several, kept + [kind], kind)[0]
        others = [one for one in kept if one != least]
        self.assertEqual(len(self.check(several, kept + [kind], others[:64] + [kind])), 198)
        self.refused(Full, "limit", 200, hub, several, kept + [kind], others + [kind])

    def test_links_to_the_own_kind(self):
        """The links of one row lead to different rows, none of them itself."""
        schema = Schema({"t": {"x": ("link", "t"), "y": ("link", "t")}}, [])
        several = [(Script(schema, []), ([], []))]
        kind = ("t", (), (OTHER, OTHER), ())
        self.assertEqual(len(self.check(several, [kind], [kind])), 3)

    def test_links_of_three_tables(self):
        schema = Schema({"a": {"x": ("link", "b"), "y": ("link", "b")}, "b": {"x": ("link", "c"), "y": ("link", "a")}, "c": {"t": ("tag",)}})
        script = Script(schema, [("take", "b", [("at", "x", [("none", "t")])])])
        several = [(script, ([], []))]
        kept = supports(several)[0]
        self.assertEqual(len(kept), 9 + 12 + 2)
        self.check(several, kept, kept)
        self.check(several, kept, kept[:1])


class DrawnTest(HubCase):
    def test_drawn(self):
        sizes = []
        for seed in range(120):
            chance = random.Random(seed)
            schema, script, modes = draw_lively(chance)
            several = [(script, course(script, modes, chance.choice(paths_by_form(script, modes))))]
            if how_many(schema, script.looks()) > 66:
                continue
            kept = supports(several)[0]
            kinds = chance.sample(kept, chance.randint(0, len(kept)))
            sizes.append(len(self.check(several, kept, kinds)))
            every, told = {*kinds}, {kind: partners(several, kept, kind) for kind in kept}
            for kind in kept:
                for (field, link), partner in zip(links_of(several, kind), told[kind]):
                    awaited = {"at": link[1:], "other": well_linked(several, kind, field, kept)[:1]}.get(link[0], [None])
                    self.assertEqual(partner, awaited[0])
            while True:
                more = {partner for kind in every for partner in told[kind] if partner is not None} - every
                if not more:
                    break
                every |= more
            self.assertEqual(needed(several, kept, kinds), sorted(every))
            self.assertEqual(needed(several, kept, tuple(kinds)), sorted(every))
        self.assertGreater(max(sizes), 60)


if __name__ == "__main__":
    unittest.main()
