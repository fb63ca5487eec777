"""Points 7, 8 and 61: paths, courses, and what becomes of rows."""

import copy
import random
import unittest

from endchecks.doing import done
from endchecks.rowkinds import kind_of, row_kinds
from endchecks.runs import events, run
from endchecks.schemas import Schema
from endchecks.scripts import Script
from endchecks.tables import Tables
from endchecks.ways import course, is_path, new_way, open_course, way
from tests.cases import RaisesCase
from tests.drawn import draw_legal, draw_modes, draw_schema, draw_script
from tests.samples import ODD, deep, tree

END = ("change", "task", [("none", "boss")], {"state": "done", "code": None})
CUT = ("change", "task", [("not", ("none", "boss"))], {"boss": None})
TOP = ("put", "top", "task", {"state": "open", "boss": ("new", "top"), "code": ("word", "x")})
NEW = ("put", "new", "task", {"state": "done", "boss": ("new", "top"), "code": ("own",)})
TAKE = ("take", "task", [])
SWITCH = ("switch", ["code", "whole"], "now")
LATE = {"whole": "late", "some": "late", "code": "late"}
# A try whose body can fail at two places, in a trial that follows it, and a statement behind both.
BLOCKS = [("try", [END, ("trial", [CUT, SWITCH])], ["whole"], [CUT]), ("trial", [TAKE]), TOP]


def paths_by_form(script, modes):
    """All paths, said in another way than the package does: by all choices of what fails."""
    found = []

    def go(body, ahead, now, caught, behind):
        """What can come of a body; behind is called with what it led to."""
        if not body:
            return behind(now, caught, None)
        address, item = ahead, body[0]

        def rest(now, caught, failure):
            if failure is None:
                go(body[1:], (*address[:-1], address[-1] + 1), now, caught, behind)
            else:
                behind(now, caught, failure)

        def after_block(inner, caught, failure):
            if item[0] == "trial":
                rest(now, caught, failure)
            elif failure is None:
                rest(inner, caught, failure)
            elif failure[1] in item[2]:
                go(item[3], (*address, 1, 0), now, caught + (failure,), rest)
            else:
                rest(inner, caught, failure)

        if item[0] in ("trial", "try"):
            return go(item[1], (*address, 0, 0), now, caught, after_block)
        switched, names = dict(now), script.schema.names()
        checked = [name for name in names if now[name] != "late"]
        if item[0] == "switch":
            switched.update({name: item[2] for name in item[1]})
            checked = [name for name in names if name in item[1] and item[2] != "late"]
        rest(switched, caught, None)
        for name in checked:
            rest(now, caught, (address, name))

    def end(now, caught, failure):
        found.append((caught, failure))
        if failure is None:
            found.extend((caught, ((), name)) for name in script.schema.names() if now[name] == "late")

    go(script.body(), (0,), {name: modes.get(name, "now") for name in script.schema.names()}, (), end)
    return found


class IsPathTest(RaisesCase):
    def check(self, body, modes, good, bad):
        script = Script(tree(), body)
        before = copy.deepcopy(modes)
        for thing in good:
            self.held(is_path(script, modes, thing), True)
        for thing in bad:
            self.held(is_path(script, modes, thing), False)
        self.assertEqual([Script(tree(), body), modes], [script, before])

    def test_any_value(self):
        wrong = [*ODD, deep(29), ((), None, None), ((),), [(), None], ([], None), (None, None), ((), []), ((), ()),
                 ((), ("x",)), ((), "whole"), ("", None), ((), ((0,),)), ((), ((0,), "whole", 1)), ((), [(0,), "whole"]),
                 ((), ([0], "whole")), ((), ((0,), ["whole"])), ((), ((0,), None)), ((), (0, "whole")), ((), ("0", "whole")),
                 ((), ((False,), "whole")), ((), (("0",), "whole")), ((), ((-1,), "whole")), ((), ((0,), "other")),
                 (((0,), "whole"), None), ((None,), None), (((), ()), None), ((((0,), "whole"),), None), ((True,), None)]
        for body in [[END], []]:
            self.check(body, {}, [((), None)], wrong)

    def test_plain_scripts(self):
        rules = ["whole", "some", "code"]
        self.check([END, CUT], {}, [((), None)] + [((), ((at,), name)) for at in [0, 1] for name in rules],
                   [((), ((2,), "some")), ((), ((), "some")), ((), ((0, 0), "some")), ((((0,), "some"),), None)])
        self.check([END, CUT], LATE, [((), None)] + [((), ((), name)) for name in rules],
                   [((), ((at,), name)) for at in [0, 1] for name in rules])
        self.check([END, SWITCH], {"whole": "late", "some": "each"},
                   [((), ((0,), "some")), ((), ((0,), "code")), ((), ((1,), "code")), ((), ((1,), "whole"))],
                   [((), ((0,), "whole")), ((), ((1,), "some")), ((), ((), "whole"))])
        self.check([("switch", ["some"], "late"), END], {}, [((), ((), "some")), ((), ((1,), "code"))],
                   [((), ((0,), "some")), ((), ((1,), "some")), ((), ((), "code"))])

    def test_blocks(self):
        first, inner, switch = ((0, 0, 0), "whole"), ((0, 0, 1, 0, 0), "whole"), ((0, 0, 1, 0, 1), "whole")
        good = [((failure,), end) for failure in [first, inner, switch]
                for end in [None, ((0, 1, 0), "whole"), ((0, 1, 0), "code"), ((1, 0, 0), "some"), ((2,), "code")]]
        good += [((), None), ((), ((0, 0, 0), "some")), ((), ((0, 0, 1, 0, 1), "code")), ((), ((1, 0, 0), "whole"))]
        bad = [((first, inner), None), ((inner, first), None), ((first, first), None), ((), first), ((), inner),
               ((((0, 0, 0), "code"),), None), ((((1, 0, 0), "whole"),), None), ((), ((0, 1, 0), "whole")),
               ((((0, 0, 1, 0, 1), "some"),), None), ((first,), first), ((first,), inner), ((first,), ((0, 0, 0), "code")),
               ((first,), ((0, 0, 1), "whole")), ((first, ((2,), "code")), None), ((first,), ((3,), "code")),
               ((first,), ((0,), "code")), (((((False, 0, 0)), "whole"),), None), ((((0, 0, True, 0, 0), "whole"),), None),
               ((first,), ((), "whole")), ([first], None), (list(first), None), (first, None)]
        self.check(BLOCKS, {}, good, bad)

    def test_a_try_within_a_try(self):
        body = [("try", [("try", [END], ["some"], [CUT])], ["whole"], []), TAKE]
        some, whole, other = ((0, 0, 0, 0, 0), "some"), ((0, 0, 0, 0, 0), "whole"), ((0, 0, 0, 1, 0), "whole")
        self.check(body, {}, [((some,), None), ((whole,), None), ((some, other), None), ((some,), ((0, 0, 0, 1, 0), "some")),
                              ((some, other), ((1,), "whole")), ((), ((0, 0, 0, 0, 0), "code"))],
                   [((other, some), None), ((other,), None), ((some, whole), None), ((whole, other), None), ((), other),
                    ((some,), other), ((), whole), ((some, other), other)])

    def test_modes_within_a_try_that_catches(self):
        body = [("try", [("switch", ["some", "code"], "late"), END], ["whole"], [CUT]), CUT]
        whole = ((0, 0, 1), "whole")
        self.check(body, {}, [((whole,), ((0, 1, 0), "some")), ((whole,), ((1,), "code")), ((), ((1,), "whole")),
                              ((), ((), "some"))],
                   [((), ((1,), "some")), ((whole,), ((), "some")), ((), ((0, 0, 1), "some"))])

    def test_all_paths_by_form(self):
        for seed in range(150):
            chance = random.Random(seed)
            schema = draw_schema(chance)
            script, modes = draw_script(chance, schema, 2), draw_modes(chance, schema)
            found = paths_by_form(script, modes)
            self.assertEqual(len(set(found)), len(found))
            for path in found[:60]:
                self.held(is_path(script, modes, path), True)
                self.spoil(chance, script, modes, path, found)

    def spoil(self, chance, script, modes, path, found):
        """Paths that are changed in one thing."""
        failures = [(at, name) for at in [(), *script.addresses()] for name in script.schema.names()]
        caught, end = path
        others = [(caught[1:], end), (caught[:-1], end), (caught[::-1], end), (caught + caught[:1], end), (caught, None)]
        if end is not None:
            others += [(caught + (end,), None), (caught[:-1], caught[-1] if caught else end)]
        if failures:
            failure = chance.choice(failures)
            others += [(caught, failure), (caught + (failure,), end), ((failure,) + caught, end)]
        for other in others:
            self.held(is_path(script, modes, other), other in found)


class CourseTest(RaisesCase):
    def check(self, body, modes, path, steps, told):
        script = Script(tree(), body)
        self.assertEqual(course(script, modes, path), (steps, told))

    def all_pass(self, moment, address, names="whole some code", way_of="behind"):
        return [(moment, address, name, way_of, True) for name in names.split()]

    def test_plain(self):
        self.check([], {}, ((), None), [], [])
        self.check([END, CUT], {}, ((), None), [((0,), "do"), ((1,), "do")],
                   self.all_pass(1, (0,)) + self.all_pass(2, (1,)))
        self.check([END, CUT], {"some": "late"}, ((), None), [((0,), "do"), ((1,), "do")],
                   self.all_pass(1, (0,), "whole code") + self.all_pass(2, (1,), "whole code") + self.all_pass(2, (), "some"))
        # A failing statement has its "do", and nothing comes behind it.
        self.check([END, CUT], {"code": "each"}, ((), ((1,), "code")), [((0,), "do"), ((1,), "do")],
                   self.all_pass(1, (0,), "whole some") + self.all_pass(1, (0,), "code", "within")
                   + self.all_pass(2, (1,), "whole some") + [(2, (1,), "code", "within", False)])
        self.check([END, CUT], {}, ((), ((0,), "whole")), [((0,), "do")], [(1, (0,), "whole", "behind", False)])

    def test_switches(self):
        self.check([SWITCH, TAKE, SWITCH], {"some": "each"}, ((), ((2,), "code")), [((1,), "do")],
                   self.all_pass(0, (0,), "whole code") + self.all_pass(1, (1,), "whole") + self.all_pass(1, (1,), "some", "within")
                   + self.all_pass(1, (1,), "code") + self.all_pass(1, (2,), "whole") + [(1, (2,), "code", "behind", False)])
        self.check([("switch", ["some", "whole"], "late")], {}, ((), ((), "some")), [],
                   self.all_pass(0, (), "whole") + [(0, (), "some", "behind", False)])

    def test_blocks(self):
        whole = ((0, 0, 1, 0, 0), "whole")
        self.check(BLOCKS, {}, ((whole,), None), [
            ((0,), "keep"), ((0, 0, 0), "do"), ((0, 0, 1), "keep"), ((0, 0, 1, 0, 0), "do"), ((0,), "undo"),
            ((0, 1, 0), "do"), ((1,), "keep"), ((1, 0, 0), "do"), ((1,), "undo"), ((2,), "do"),
        ], self.all_pass(2, (0, 0, 0)) + [(4, (0, 0, 1, 0, 0), "whole", "behind", False)]
            + self.all_pass(6, (0, 1, 0)) + self.all_pass(8, (1, 0, 0)) + self.all_pass(10, (2,)))
        self.check(BLOCKS, {"some": "late"}, ((), None), [
            ((0,), "keep"), ((0, 0, 0), "do"), ((0, 0, 1), "keep"), ((0, 0, 1, 0, 0), "do"), ((0, 0, 1), "undo"),
            ((1,), "keep"), ((1, 0, 0), "do"), ((1,), "undo"), ((2,), "do"),
        ], self.all_pass(2, (0, 0, 0), "whole code") + self.all_pass(4, (0, 0, 1, 0, 0), "whole code")
            + self.all_pass(4, (0, 0, 1, 0, 1), "whole code") + self.all_pass(7, (1, 0, 0), "whole code")
            + self.all_pass(9, (2,), "whole code") + self.all_pass(9, (), "some"))
        self.check(BLOCKS, {}, ((), ((0, 0, 1, 0, 1), "code")), [
            ((0,), "keep"), ((0, 0, 0), "do"), ((0, 0, 1), "keep"), ((0, 0, 1, 0, 0), "do")],
            self.all_pass(2, (0, 0, 0)) + self.all_pass(4, (0, 0, 1, 0, 0)) + self.all_pass(4, (0, 0, 1, 0, 1), "whole")
            + [(4, (0, 0, 1, 0, 1), "code", "behind", False)])

    def test_events_are_those_of_runs(self):
        for seed in range(300):
            chance = random.Random(seed)
            schema = draw_schema(chance, many_rules=4)
            script, modes = draw_script(chance, schema), draw_modes(chance, schema)
            tables = draw_legal(chance, schema)
            if tables is not None:
                path = run(script, tables, modes)[0]
                self.held(is_path(script, modes, path), True)
                steps, told = course(script, modes, path)
                self.assertEqual([event[1:] for event in told], events(script, tables, modes))
                self.assertEqual([event[0] for event in told], sorted(event[0] for event in told))
                steps.append("x")
                told.append("x")
                self.assertNotEqual(course(script, modes, path), (steps, told))

    def test_open_course(self):
        script = Script(tree(), [END, SWITCH, CUT, TAKE])
        told = [(1, (0,), "whole", "within", False), (3, (3,), "some", "behind", True)]
        steps = [((0,), "do"), ((2,), "do"), ((3,), "do")]
        before = list(told)
        gone = open_course(script, told)
        self.assertEqual([gone, told], [(steps, before), before])
        gone[1].append("x")
        self.assertEqual(told, before)
        self.assertEqual(open_course(script, []), (steps, []))
        self.assertEqual(open_course(Script(tree(), [SWITCH]), []), ([], []))


# What is told of rows of tasks: the state, the boss and the code.
OTHER = ("task", ("open",), (("other",),), (True,))


def state(word, boss, code):
    return ((word,), (boss,), (code,))


START = state("open", ("start", "boss"), ("start", "code"))


class WayTest(RaisesCase):
    def do_all(self, body):
        script = Script(tree(), body)
        return script, open_course(script, [])[0]

    def test_changes(self):
        script, steps = self.do_all([END, CUT, END, ("change", "task", [("row", "top")], {"state": "open"}), TOP, TAKE])
        self.assertEqual(way(script, steps, OTHER), [
            START, START, state("open", None, ("start", "code")), *[state("done", None, None)] * 3, None])
        self.assertEqual(way(script, steps, ("task", ("done",), (("none",),), (False,))), [
            *[state("done", None, None)] * 6, None])
        self.assertEqual(new_way(script, steps, "top"), [
            *[None] * 5, state("open", ("new", "top"), ("name", "x")), None])

    def test_a_link_of_each_sort(self):
        script, steps = self.do_all([CUT, END])
        for link in [("self",), ("gone",), ("other",)]:
            self.assertEqual(way(script, steps, ("task", ("open",), (link,), (False,))), [
                state("open", ("start", "boss"), None), state("open", None, None), state("done", None, None)])
        self.assertEqual(way(script, steps, ("task", ("open",), (("none",),), (True,))), [
            state("open", None, ("start", "code")), state("open", None, ("start", "code")), state("done", None, None)])

    def test_new_rows(self):
        to_new = ("change", "task", [("not", ("row", "new"))], {"boss": ("new", "new")})
        seen = ("change", "task", [("new", "boss", "new")], {"state": "done"})
        mine = ("change", "task", [("row", "new"), ("not", ("new", "boss", "new"))], {"code": None})
        script, steps = self.do_all([TOP, NEW, to_new, seen, mine, ("take", "task", [("new", "boss", "top")])])
        top = [None, *[state("open", ("new", "top"), ("name", "x"))] * 2, state("open", ("new", "new"), ("name", "x")),
               *[state("done", ("new", "new"), ("name", "x"))] * 3]
        new = [None, None, *[state("done", ("new", "top"), ("name", "+new.code"))] * 3,
               state("done", ("new", "top"), None), None]
        self.assertEqual([new_way(script, steps, "top"), new_way(script, steps, "new")], [top, new])
        self.assertEqual(way(script, steps, OTHER), [
            *[START] * 3, state("open", ("new", "new"), ("start", "code")), *[state("done", ("new", "new"), ("start", "code"))] * 3])

    def test_fields_of_the_row_as_it_was(self):
        fields = {"a": ("link", "t"), "b": ("link", "t"), "m": ("mark", ["u", "v"]), "x": ("tag",), "y": ("tag",)}
        schema = Schema({"t": fields})
        swap = ("change", "t", [], {"a": ("field", "b"), "b": ("field", "a"), "x": ("field", "y"), "y": ("field", "x")})
        copies = ("change", "t", [("is", "m", ["u"])], {"a": ("field", "b"), "x": ("field", "y"), "m": "v"})
        put = ("put", "h", "t", {"a": ("new", "h"), "b": None, "m": "u", "x": ("own",), "y": ("word", "w")})
        script = Script(schema, [put, swap, copies])
        steps = open_course(script, [])[0]
        kind = ("t", ("u",), (("gone",), ("self",)), (True, False))
        start = (("u",), (("start", "a"), ("start", "b")), (("start", "x"), None))
        self.assertEqual(way(script, steps, kind), [
            start, start, (("u",), (("start", "b"), ("start", "a")), (None, ("start", "x"))),
            (("v",), (("start", "a"), ("start", "a")), (("start", "x"), ("start", "x")))])
        self.assertEqual(new_way(script, steps, "h"), [
            None, (("u",), (("new", "h"), None), (("name", "+h.x"), ("name", "w"))),
            (("u",), (None, ("new", "h")), (("name", "w"), ("name", "+h.x"))),
            (("v",), (("new", "h"), ("new", "h")), (("name", "+h.x"), ("name", "+h.x")))])

    def test_undo(self):
        script = Script(tree(), BLOCKS)
        steps = course(script, {}, ((((0, 0, 1, 0, 0), "whole"),), None))[0]
        none = ("task", ("open",), (("none",),), (True,))
        start, ended = state("open", None, ("start", "code")), state("done", None, None)
        self.assertEqual(way(script, steps, none), [
            start, start, ended, ended, ended, start, start, start, None, start, start])
        cut = state("open", None, ("start", "code"))
        self.assertEqual(way(script, steps, OTHER), [
            START, START, START, START, cut, START, cut, cut, None, cut, cut])
        self.assertEqual(new_way(script, steps, "top"), [*[None] * 10, state("open", ("new", "top"), ("name", "x"))])
        script = Script(tree(), [("trial", [TOP, ("trial", [TAKE]), END]), CUT])
        steps = course(script, {"some": "late"}, ((), None))[0]
        top = state("open", ("new", "top"), ("name", "x"))
        self.assertEqual(new_way(script, steps, "top"), [None, None, top, top, None, top, top, None, None])

    def look(self):
        """Items look at their makers; both change."""
        schema = Schema({"item": {"m": ("mark", ["u", "v"]), "x": ("link", "maker"), "y": ("link", "maker")},
                         "maker": {"n": ("mark", ["u", "v"]), "z": ("link", "item")}, "other": {}})
        at = [("at", "x", [("is", "n", ["v"])])]
        return schema, [
            ("put", "h", "maker", {"n": "u", "z": None}), ("put", "i", "item", {"m": "u", "x": ("new", "h"), "y": None}),
            ("change", "item", at, {"m": "v"}), ("change", "maker", [], {"n": "v"}), ("change", "item", at, {"m": "v"}),
            ("change", "item", [("not", ("at", "x", []))], {"x": ("field", "y")}), ("take", "maker", [("row", "h")]),
            ("change", "item", [("at", "x", [])], {"m": "u"}), ("change", "item", [], {"x": ("new", "h")}),
            ("take", "item", [("not", ("at", "x", []))]),
        ]

    def test_looks(self):
        schema, body = self.look()
        script = Script(schema, body)
        steps = open_course(script, [])[0]
        u, v = [("at", ("maker", (word,), (("other",),), ())) for word in "uv"]

        def gone(one, other):
            return [(row[0][0], *row[1]) if row else None for row in way(script, steps, ("item", ("u",), (one, other), ()))]

        x, y, h = ("start", "x"), ("start", "y"), ("new", "h")
        self.assertEqual(gone(u, ("none",)), [
            *[("u", x, None)] * 5, *[("v", x, None)] * 3, ("u", x, None), ("u", h, None), None])
        self.assertEqual(gone(v, ("gone",)), [
            *[("u", x, y)] * 3, *[("v", x, y)] * 5, ("u", x, y), ("u", h, y), None])
        self.assertEqual(gone(("none",), u), [*[("u", None, y)] * 6, *[("u", y, y)] * 3, ("u", h, y), None])
        self.assertEqual(gone(("gone",), ("none",)), [*[("u", x, None)] * 6, *[("u", None, None)] * 3, ("u", h, None), None])
        self.assertEqual(new_way(script, steps, "i"), [
            None, None, *[(("u",), (h, None), ())] * 3, *[(("v",), (h, None), ())] * 5, None])
        self.assertEqual(way(script, steps, ("other", (), (), ())), [((), (), ())] * 11)

    def test_wider_looks(self):
        """Kinds by looks that have more than those of the script."""
        schema, body = self.look()
        script = Script(schema, [body[3], ("change", "item", [("not", ("none", "x"))], {"m": "v"})])
        maker = ("maker", ("u",), (("other",),), ())
        kind = ("item", ("u",), (("at", maker), ("none",)), ())
        self.assertEqual(way(script, [((0,), "do"), ((1,), "do")], kind), [
            *[(("u",), (("start", "x"), None), ())] * 2, (("v",), (("start", "x"), None), ())])

    def test_results_are_new(self):
        script, steps = self.do_all([END, TOP])
        before = copy.deepcopy(steps)
        way(script, steps, OTHER).append("x")
        new_way(script, steps, "top").append("x")
        self.assertEqual([len(way(script, steps, OTHER)), len(new_way(script, steps, "top")), steps], [3, 3, before])


class DrawnTest(RaisesCase):
    def draw(self, seed):
        chance = random.Random(seed)
        schema = draw_schema(chance, 3, 4, 3)
        script = draw_script(chance, schema, chance.choice([2, 3, 4]))
        return chance, script, draw_legal(chance, schema, 6), draw_modes(chance, schema)

    def all_tables(self, script, steps, tables):
        """The Tables at all moments."""
        gone, kept = [tables], {}
        for address, word in steps:
            if word == "keep":
                kept[address] = tables
            tables = kept[address] if word != "do" else done(tables, script.statement_at(address))
            gone.append(tables)
        return gone

    def value(self, told, row):
        """What a field has that a state tells of, for a row that was so at the start."""
        if told is None:
            return None
        return {"start": lambda: row[told[1]], "new": lambda: "+" + told[1], "name": lambda: told[1]}[told[0]]()

    def real(self, schema, table, told, row):
        if told is None:
            return None
        found = dict(zip(schema.marks(table), told[0]))
        found.update(zip(schema.links(table), [self.value(part, row) for part in told[1]]))
        found.update(zip(schema.tags(table), [self.value(part, row) for part in told[2]]))
        return found

    def test_ways_are_those_of_rows(self):
        """Guarantee 7: the way of a row hangs on its kind alone."""
        for seed in range(500):
            chance, script, tables, modes = self.draw(seed)
            if tables is None:
                continue
            schema = script.schema
            steps = course(script, modes, run(script, tables, modes)[0])[0]
            gone = self.all_tables(script, steps, tables)
            for ident in tables.ids():
                table, row = tables.table_of(ident), tables[tables.table_of(ident), ident]
                told = way(script, steps, kind_of(tables, script.looks(), ident))
                self.assertEqual([self.real(schema, table, part, row) for part in told],
                                 [there.rows(table).get(ident) for there in gone])
            for handle, (table, _) in script.handles().items():
                self.assertEqual([self.real(schema, table, part, {}) for part in new_way(script, steps, handle)],
                                 [there.rows(table).get("+" + handle) for there in gone])

    def renamed(self, tables):
        """The same tables with other ids and tag names."""
        def other(name):
            return name and name + "o"

        result = Tables(tables.schema)
        for table in tables.schema.tables():
            marks = tables.schema.marks(table)
            for ident, row in tables.rows(table).items():
                result[table, other(ident)] = {name: row[name] if name in marks else other(row[name]) for name in row}
        return result

    def test_side_by_side(self):
        """Guarantee 8: what two tables with nothing in common do, they do side by side."""
        seen = 0
        for seed in range(300):
            chance, script, tables, modes = self.draw(seed)
            if tables is None:
                continue
            words = [value[1] for at in script.addresses() for value in self.put_values(script.statement_at(at))
                     if value[0] == "word"]
            others = [tables] + [draw_legal(chance, script.schema) for _ in range(4)]
            path = run(script, tables, modes)[0]
            for other in [self.renamed(other) for other in others if other is not None]:
                if run(script, other, modes)[0] == path and not {*other.names()} & {*tables.names(), *words}:
                    self.assertEqual(run(script, tables.joined(other), modes)[0], path)
                    seen += 1
        self.assertGreater(seen, 300)

    def put_values(self, statement):
        return [value for value in statement[3].values() if isinstance(value, tuple)] if statement[0] == "put" else []

    def test_each_kind_has_a_way(self):
        for seed in range(60):
            chance, script, tables, modes = self.draw(seed)
            if tables is not None:
                steps, told = course(script, modes, run(script, tables, modes)[0])
                try:
                    kinds = row_kinds(script.schema, script.looks(), most=400)
                except ValueError:
                    continue
                for kind in kinds:
                    gone = way(script, steps, kind)
                    self.assertEqual([len(gone), gone[0][0]], [len(steps) + 1, kind[1]])


if __name__ == "__main__":
    unittest.main()
