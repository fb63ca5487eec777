"""Point 70: kinds that stand together, and how the others fall."""

import copy
import random
import unittest

from endchecks.errors import TooMany
from endchecks.fits import breaks, is_linked_well, meets_some
from endchecks.rowkinds import how_many, row_kinds
from endchecks.runs import run
from endchecks.schemas import Schema
from endchecks.scripts import Script
from endchecks.supports import are_falls, do_stand, supports
from endchecks.ways import course, is_path, open_course
from tests.cases import RaisesCase
from tests.drawn import draw_legal, draw_lively
from tests.samples import ODD, deep, tree
from tests.test_ways import paths_by_form

NONE, SELF, GONE, OTHER = ("none",), ("self",), ("gone",), ("other",)
U, V = [("is", "m", ["u"])], [("is", "m", ["v"])]


def checks_of(script, its_course):
    return [(0, (), name, "behind", True) for name in script.schema.names()] + its_course[1]


def rule_sort(script, check):
    return script.schema.rule_of(check[2])[1]


def looks_of(several):
    return sorted({look for script, _ in several for look in script.looks()})


def all_kinds(several):
    return row_kinds(several[0][0].schema, looks_of(several), most=400)


def links_of(several, kind):
    schema = several[0][0].schema
    return list(zip(schema.links(kind[0]), kind[2]))


def stands_beside(several, kind, kinds):
    """Whether a kind can stand beside kinds, itself perhaps among them; by the functions of fits."""
    for script, its_course in several:
        for check in checks_of(script, its_course):
            if check[4] and breaks(script, its_course, check, kind):
                return False
            if not check[4] and rule_sort(script, check) == "some" and meets_some(script, its_course, check, kind):
                return False
    for field, link in links_of(several, kind):
        if link[0] == "at" and link[1] not in kinds:
            return False
        if link == OTHER and not well_linked(several, kind, field, kinds):
            return False
    return True


def well_linked(several, kind, field, kinds):
    """Those of kinds with which a link of a kind is linked well in all courses."""
    leads = several[0][0].schema.leads_to(kind[0], field)
    return [other for other in kinds if other[0] == leads
            and all(is_linked_well(script, its_course, kind, field, other) for script, its_course in several)]


def greatest(several):
    kinds, before = all_kinds(several), None
    while kinds != before:
        before = kinds
        kinds = [kind for kind in kinds if stands_beside(several, kind, kinds)]
    return kinds


def is_right(several, ahead, kind, reason):
    """Whether a reason is right, by the words of the document."""
    if reason[0] in ("breaks", "some"):
        script, its_course = several[reason[1]]
        if reason[2] not in checks_of(script, its_course):
            return False
        if reason[0] == "breaks":
            return reason[2][4] and breaks(script, its_course, reason[2], kind)
        is_some = rule_sort(script, reason[2]) == "some"
        return is_some and not reason[2][4] and meets_some(script, its_course, reason[2], kind)
    link = dict(links_of(several, kind))[reason[1]]
    if reason[0] == "at":
        return link[0] == "at" and link[1] in ahead
    return link == OTHER and not set(well_linked(several, kind, reason[1], all_kinds(several))) - set(ahead)


class SupportsCase(RaisesCase):
    def check(self, several, reasons=None):
        """That what supports tells is right; returns the kinds that stand and the falls."""
        before = copy.deepcopy([its_course for _, its_course in several])
        kept, falls = supports(several)
        self.assertEqual(supports(several), (kept, falls))
        self.assertEqual(kept, greatest(several))
        self.assertEqual(sorted(kept + [kind for kind, _ in falls]), all_kinds(several))
        for at, (kind, reason) in enumerate(falls):
            self.assertTrue(is_right(several, [item[0] for item in falls[:at]], kind, reason), (kind, reason))
        self.held(are_falls(several, falls), True)
        self.held(do_stand(several, kept), True)
        if reasons is not None:
            self.assertEqual({reason[0] for _, reason in falls}, reasons)
        self.assertEqual([its_course for _, its_course in several], before)
        return kept, falls


def chain():
    """Each link leads to a row one step further on; the rows at the end break a rule."""
    fields = {"m": ("mark", ["a", "b", "c", "d"]), "x": ("link", "t")}
    rules = [("a", "link", "t", "x", [("is", "m", ["a"])], [("is", "m", ["b"])]),
             ("b", "link", "t", "x", [("is", "m", ["b"])], [("is", "m", ["c"])]),
             ("c", "check", "t", [("not", ("is", "m", ["c"]))]), ("d", "check", "t", [("not", ("none", "x"))]),
             ("e", "some", "t", [("is", "m", ["d"])])]
    return Script(Schema({"t": fields}, rules), [("change", "t", [("is", "m", ["d"])], {"m": "d"})])


def looking():
    """A script that looks from t to r, whose rows are changed."""
    schema = Schema({"t": {"m": ("mark", ["u", "v"]), "x": ("link", "r")}, "r": {"n": ("mark", ["u", "v"]), "y": ("link", "t")}}, [
        ("k", "check", "r", [("is", "n", ["u"])]), ("l", "check", "t", U), ("s", "some", "t", U)])
    return Script(schema, [("change", "t", [("at", "x", [("none", "y")])], {"m": "v"}), ("change", "r", [], {"n": "u"})])


class ReasonsTest(SupportsCase):
    def test_in_several_steps(self):
        script = chain()
        several = [(script, course(script, {}, ((), None)))]
        kept, falls = self.check(several, {"breaks", "other"})
        others = [kind for kind, reason in falls if reason == ("other", "x")]
        self.assertEqual(others, [("t", ("b",), (OTHER,), ()), ("t", ("a",), (OTHER,), ())])
        self.assertEqual(kept, [("t", ("d",), (link,), ()) for link in [GONE, OTHER, SELF]])

    def test_all_four(self):
        script = looking()
        passed = (1, (0,), "l", "behind", True)
        failed = (2, (1,), "s", "behind", False)
        several = [(script, open_course(script, [passed, failed]))]
        # Rows of t that meet the rule that is not passed are those whose m is u.
        kept, falls = self.check(several, {"breaks", "some", "at", "other"})
        self.assertEqual(kept, [("r", ("u",), (link,), ()) for link in [GONE, NONE]])

    def test_the_example(self):
        script = Script(tree(), [("change", "task", [("none", "boss")], {"state": "done"})])
        several = [(script, course(script, {}, ((), ((0,), "whole"))))]
        kept, falls = self.check(several, {"breaks"})
        self.assertEqual([len(kept), len(falls)], [10, 6])

    def test_within(self):
        schema = Schema({"t": {"m": ("mark", ["u", "v"]), "x": ("link", "t")}}, [("k", "link", "t", "x", [], U)])
        script = Script(schema, [("change", "t", [], {"m": "v"}), ("change", "t", [], {"m": "u"})])
        for way, many in [("behind", 5), ("within", 2)]:
            several = [(script, open_course(script, [(2, (1,), "k", way, True)]))]
            self.assertEqual(len(self.check(several)[0]), many)

    def test_two_courses(self):
        """What stands in each of them, and not in both."""
        schema = Schema({"t": {"m": ("mark", ["u", "v"]), "x": ("link", "t")}}, [("k", "link", "t", "x", [], U), ("l", "check", "t", U)])
        one = Script(Schema({"t": schema.fields("t")}, schema.rules()), [("switch", ["l"], "late")])
        two = Script(schema, [("change", "t", [("is", "m", ["u"])], {"m": "v"})])
        first, second = (one, open_course(one, [])), (two, open_course(two, [(1, (0,), "k", "behind", True)]))
        self.assertEqual(len(self.check([first])[0]), 3)
        self.assertEqual(self.check([second])[0], [("t", ("u",), (NONE,), ())])
        kept, falls = self.check([first, second])
        self.assertEqual(kept, [("t", ("u",), (NONE,), ())])
        self.assertIn(("breaks", 1, (1, (0,), "k", "behind", True)), [reason for _, reason in falls])

    def test_linked_well_in_all_courses(self):
        """Each course leaves another partner; together they leave none."""
        fields = {"m": ("mark", ["u", "v"]), "x": ("link", "t")}
        schema = Schema({"t": fields}, [("k", "link", "t", "x", [], U)])
        one = Script(schema, [("change", "t", [("none", "x")], {"m": "v"})])
        two = Script(schema, [("change", "t", [("not", ("none", "x"))], {"m": "v"})])
        first, second = [(script, open_course(script, [(1, (0,), "k", "behind", True)])) for script in [one, two]]
        self.assertEqual([len(self.check(several)[0]) for several in [[first], [second], [first, second], [second, first]]],
                         [5, 4, 2, 2])

    def test_looks_of_both(self):
        """The kinds are those by the looks of both scripts."""
        script = looking()
        other = Script(script.schema, [])
        several = [(other, open_course(other, [])), (script, open_course(script, []))]
        self.assertEqual(len(all_kinds(several)), how_many(script.schema, [("t", "r")]))
        self.check(several)

    def test_no_kind_stands(self):
        schema = Schema({"t": {"m": ("mark", ["u", "v"])}}, [("k", "check", "t", U), ("l", "check", "t", V)])
        script = Script(schema, [])
        self.assertEqual(self.check([(script, ([], []))])[0], [])

    def test_too_many(self):
        script = Script(tree(), [])
        several = [(script, ([], []))]
        self.assertEqual(sum(map(len, supports(several, most=16))), 16)
        self.refused(TooMany, "limit", 15, lambda: supports(several, most=15))
        wide = {"m": ("mark", ["a", "b", "c", "d"]), "n": ("mark", ["a", "b", "c", "d"]), "t": ("tag",), "x": ("link", "t")}
        two = {"m": ("mark", ["a", "b", "c", "d"]), "n": ("mark", ["a", "b", "c"]), "t": ("tag",), "x": ("link", "t")}
        just = Script(Schema({"t": wide, "s": two}), [])
        self.assertEqual(len(supports([(just, ([], []))])[0]), 200)
        more = Script(Schema({"t": wide, "s": two, "r": {}}), [])
        self.refused(TooMany, "limit", 200, supports, [(more, ([], []))])
        self.assertEqual(len(supports([(more, ([], []))], most=201)[0]), 201)

    def test_results_are_new(self):
        script = chain()
        several = [(script, course(script, {}, ((), None)))]
        kept, falls = supports(several)
        before = copy.deepcopy((kept, falls))
        kept.append("x")
        falls.append("x")
        self.assertEqual(supports(several), before)


class AreFallsTest(SupportsCase):
    def setUp(self):
        script = looking()
        self.passed, self.failed = (1, (0,), "l", "behind", True), (2, (1,), "s", "behind", False)
        self.several = [(script, open_course(script, [])), (script, open_course(script, [self.passed, self.failed]))]
        self.falls = supports(self.several)[1]
        self.kept = supports(self.several)[0]

    def test_any_value(self):
        for thing in [*ODD, deep(29), ((), ()), tuple(self.falls), [()], [("x", "y")], [None], [[]], [self.falls], [*self.falls, None],
                      [(self.falls[0][0],)], [(*self.falls[0], 1)], [list(self.falls[0])]]:
            self.held(are_falls(self.several, thing), isinstance(thing, list) and thing == [])

    def test_parts_and_other_orders(self):
        self.held(are_falls(self.several, []), True)
        for at in range(len(self.falls)):
            self.held(are_falls(self.several, self.falls[:at]), True)
        words = [reason[0] for _, reason in self.falls]
        self.assertEqual({*words}, {"breaks", "some", "at", "other"})
        first = [fall for fall in self.falls if fall[1][0] in ("breaks", "some")]
        self.held(are_falls(self.several, first[::-1]), True)
        self.held(are_falls(self.several, self.falls[::-1]), False)
        for word in ["at", "other"]:
            self.held(are_falls(self.several, [self.falls[words.index(word)]]), False)
        # For "other" all kinds with which it is linked well must be ahead: also the last of them.
        last = max(at for at, word in enumerate(words) if word == "other")
        kinds = [fall[0] for fall in self.falls[:last]]
        needed = [kind for kind in well_linked(self.several, self.falls[last][0], self.falls[last][1][1], all_kinds(self.several))]
        self.assertTrue(needed and {*needed} <= {*kinds})
        for kind in needed:
            lacking = [fall for fall in self.falls[:last] if fall[0] != kind and fall[1][0] in ("breaks", "some")]
            self.held(are_falls(self.several, [*lacking, self.falls[last]]), False)

    def test_twice(self):
        for fall in self.falls:
            self.held(are_falls(self.several, [*self.falls, fall]), False)
        self.held(are_falls(self.several, [self.falls[0], self.falls[0]]), False)

    def test_wrong_in_one_thing(self):
        for at, (kind, reason) in enumerate(self.falls):
            ahead = self.falls[:at]
            self.held(are_falls(self.several, [*ahead, (kind, reason)]), True)
            for thing in [*ODD, list(reason), reason[:-1], (*reason, None), ("x", *reason[1:]), (None, *reason[1:])]:
                self.held(are_falls(self.several, [*ahead, (kind, thing)]), False)
            for thing in [*ODD, kind[:3], list(kind), (*kind[:3], (1,)), (kind[0], kind[1], (OTHER, OTHER), ())]:
                self.held(are_falls(self.several, [*ahead, (thing, reason)]), False)
            for part in range(1, len(reason)):
                for thing in [*ODD, "x", "m", 7, (), (0, (), "k", "behind"), 2, -1]:
                    if repr(thing) != repr(reason[part]):
                        told = (*reason[:part], thing, *reason[part + 1:])
                        right = len(told) == 3 and part == 1 and isinstance(thing, int) and not isinstance(thing, bool) and (
                            0 <= thing < 2 and is_right(self.several, [], kind, told))
                        self.held(are_falls(self.several, [*ahead, (kind, told)]), right)

    def test_true_for_one(self):
        kind = next(kind for kind, reason in self.falls if reason == ("breaks", 1, self.passed))
        for check in [(True, *self.passed[1:]), (1, (False,), *self.passed[2:]), (*self.passed[:4], 1), (1, [0], *self.passed[2:]),
                      list(self.passed)]:
            self.held(are_falls(self.several, [(kind, ("breaks", 1, check))]), False)
        self.held(are_falls(self.several, [(kind, ("breaks", True, self.passed))]), False)
        self.held(are_falls(self.several, [(kind, ("breaks", 1, self.passed))]), True)
        kind = next(kind for kind, reason in self.falls if reason == ("some", 1, self.failed))
        self.held(are_falls(self.several, [(kind, ("some", 1, (*self.failed[:4], 0)))]), False)
        self.held(are_falls(self.several, [(kind, ("some", 1, self.failed))]), True)

    def test_reasons_of_others(self):
        """Each reason beside each kind: right just as the document has it."""
        reasons = [reason for at, (_, reason) in enumerate(self.falls) if reason not in [fall[1] for fall in self.falls[:at]]]
        reasons += [("some", 0, (0, (), "s", "behind", True)), ("some", 1, self.passed), ("breaks", 1, self.failed),
                    ("breaks", 0, (0, (), "s", "behind", True)), ("at", "y"), ("other", "x")]
        answers = []
        for kind in all_kinds(self.several):
            for reason in reasons:
                names = [field for field, _ in links_of(self.several, kind)]
                fits = reason[0] in ("breaks", "some") or reason[1] in names
                first = [fall for fall in self.falls if fall[1][0] in ("breaks", "some")]
                for ahead in [[], [fall for fall in first if fall[0] != kind], [fall for fall in self.falls if fall[0] != kind]]:
                    awaited = fits and is_right(self.several, [fall[0] for fall in ahead], kind, reason)
                    if are_falls(self.several, ahead):
                        self.held(are_falls(self.several, [*ahead, (kind, reason)]), awaited)
                        answers.append((reason[0], awaited))
        self.assertEqual(len({*answers}), 8)

    def test_checks_that_do_not_tell(self):
        """A check that is not passed lets nobody fall but by a "some" rule, and a passed one of this not."""
        script = looking()
        broken, some = (1, (0,), "l", "behind", False), (1, (0,), "s", "behind", True)
        several = [(script, open_course(script, [broken, some]))]
        v, u = ("t", ("v",), (NONE,), ()), ("t", ("u",), (NONE,), ())
        self.held(are_falls(several, [(v, ("breaks", 0, broken))]), False)
        self.held(are_falls(several, [(v, ("breaks", 0, (0, (), "l", "behind", True)))]), True)
        self.held(are_falls(several, [(u, ("some", 0, some))]), False)
        self.held(are_falls(several, [(u, ("some", 0, (0, (), "s", "behind", True)))]), False)
        self.held(are_falls(several, [(v, ("some", 0, (0, (), "l", "behind", True)))]), False)
        self.held(are_falls(several, [(u, ("some", 0, broken))]), False)
        # A legal start is a check of each course.
        self.held(are_falls(self.several, [(v, ("breaks", 1, (0, (), "l", "behind", True)))]), True)


class DoStandTest(SupportsCase):
    def test_any_value(self):
        script = chain()
        several = [(script, course(script, {}, ((), None)))]
        for thing in [*ODD, deep(29), [()], [None], ("x",), [[]], [("t",)], ()]:
            self.held(do_stand(several, thing), isinstance(thing, list) and thing == [])

    def test_lists(self):
        schema = Schema({"t": {"m": ("mark", ["u", "v"]), "x": ("link", "t")}}, [
            ("k", "link", "t", "x", U, V), ("l", "link", "t", "x", V, U)])
        script = Script(schema, [("change", "t", [], {"m": "u"})])
        several = [(script, ([], []))]
        u, v, alone, own = ("t", ("u",), (OTHER,), ()), ("t", ("v",), (OTHER,), ()), ("t", ("u",), (NONE,), ()), ("t", ("v",), (SELF,), ())
        wanted = [([u, v], True), ([v, u], True), ([u], False), ([v], False), ([alone], True), ([alone, v], True), ([u, alone], False),
                  ([own], False), ([u, v, own], False), ([u, v, u], False), ([alone, alone], False), ((u, v), False),
                  ([u, v, ("t", ("u",), (GONE,), ())], False), ([u, v, alone], True), ([alone, list(alone)], False)]
        for thing, awaited in wanted:
            before = copy.deepcopy(thing)
            self.held(do_stand(several, thing), awaited)
            self.assertEqual(thing, before)

    def test_looks(self):
        script = looking()
        far, wrong = ("r", ("u",), (NONE,), ()), ("r", ("v",), (NONE,), ())
        near = ("t", ("u",), (("at", far),), ())
        several = [(script, open_course(script, []))]
        self.held(do_stand(several, [near, far]), True)
        self.held(do_stand(several, [near]), False)
        self.held(do_stand(several, [far]), True)
        self.held(do_stand(several, [("t", ("u",), (("at", wrong),), ()), far]), False)
        self.held(do_stand(several, [("t", ("u",), (OTHER,), ())]), False)
        told = [(script, open_course(script, [(1, (0,), "l", "behind", True)]))]
        self.held(do_stand(told, [near, far]), False)
        told = [(script, open_course(script, [(1, (0,), "s", "behind", False)]))]
        self.held(do_stand(told, [near, far]), True)
        self.held(do_stand(told, [near, far, ("t", ("u",), (NONE,), ())]), False)

    def test_true_for_one(self):
        script = Script(tree(), [])
        kind = ("task", ("open",), (NONE,), (True,))
        self.held(do_stand([(script, ([], []))], [kind]), True)
        self.held(do_stand([(script, ([], []))], [(*kind[:3], (1,))]), False)
        self.held(do_stand([(script, ([], []))], [kind, (*kind[:3], (1,))]), False)


class DrawnTest(SupportsCase):
    def several(self, chance):
        """One or two scripts of a schema with a course each, of paths that are gone or not."""
        schema, script, modes = draw_lively(chance)
        found = []
        for its_script in [script, Script(schema, script.body()[::-1])][:chance.choice([1, 1, 2])] if script.is_plain() else [script]:
            tables = draw_legal(chance, schema)
            path = chance.choice(paths_by_form(its_script, modes))
            if tables is not None and chance.random() < 0.5:
                path = run(its_script, tables, modes)[0]
            self.assertTrue(is_path(its_script, modes, path))
            found.append((its_script, course(its_script, modes, path)))
        return found

    def test_drawn(self):
        words = []
        for seed in range(250):
            several = self.several(random.Random(seed))
            if how_many(several[0][0].schema, looks_of(several)) <= 60:
                kept, falls = self.check(several)
                words += [reason[0] for _, reason in falls]
                self.spoil(random.Random(seed), several, kept, falls)
        self.assertEqual({*words}, {"breaks", "some", "at", "other"})

    def spoil(self, chance, several, kept, falls):
        for _ in range(4):
            kinds = chance.sample(all_kinds(several), chance.randint(0, min(5, len(all_kinds(several)))))
            self.held(do_stand(several, kinds), all(stands_beside(several, kind, kinds) for kind in kinds))
            part = chance.sample(falls, chance.randint(0, min(4, len(falls))))
            right = [is_right(several, [item[0] for item in part[:at]], *fall) for at, fall in enumerate(part)]
            self.held(are_falls(several, part), all(right))


if __name__ == "__main__":
    unittest.main()
