"""Point 102, and guarantee 15: what is written is read back, and what is written otherwise is refused."""

import random
import unittest

from endchecks.books import Book
from endchecks.errors import BadStatement, CheckError, Full, NoPlace, NoText, Twice, Unput
from endchecks.notation import (
    show_address, show_deed, show_log, show_modes, show_path, show_schema, show_script, show_statement, show_tables, show_tests)
from endchecks.paths import paths
from endchecks.readers import (
    read_address, read_deed, read_log, read_modes, read_path, read_schema, read_script, read_statement, read_tables, read_tests)
from endchecks.rowkinds import how_many
from endchecks.runs import run
from endchecks.schemas import Schema
from endchecks.scripts import Script
from endchecks.tables import Tables
from tests.cases import RaisesCase
from tests.drawn import draw_far_tests, draw_legal, draw_lively, draw_modes, draw_rule, draw_schema, draw_script, draw_tables
from tests.samples import ODD, RULES, deep, not_nested, shop, tasks, tree
from tests.test_tables import many_tasks

OPEN = ("is", "state", ["open"])
TAKE = ("take", "task", [])
TOP = ("put", "top", "task", {"state": "open", "boss": ("new", "top"), "code": ("word", "x")})
# What is put into texts, or in the place of one of their signs.
LETTERS = [" ", "\n", ";", "; ", "-", "0", "1", ".", "[", "]", "{", "}", "[]", "a", "not ", "+", "=", "@", "A", "\t"]


def bent(text):
    """Texts that are bent in one place."""
    found = [text + text, text[::-1], " " + text, text + " ", text + "\n", "\n" + text, text.upper() if text.upper() != text else text + "x"]
    for at in range(len(text) + 1):
        found += [text[:at], text[at:], text[:at] + text[at + 1:], text[:at] + text[at:at + 1] + text[at:]]
        found += [text[:at] + letter + text[at:] for letter in LETTERS]
        found += [text[:at] + letter + text[at + 1:] for letter in LETTERS]
        found.append(text[:at] + text[at + 1:at + 2] + text[at:at + 1] + text[at + 2:])
    return [other for other in dict.fromkeys(found) if other != text]


class ReadersCase(RaisesCase):
    def refuses(self, call, *things):
        for thing in things:
            with self.assertRaises(NoText, msg=repr(thing)) as caught:
                call(thing)
            self.assertIs(type(caught.exception), NoText)

    def reads(self, call, show, thing, text):
        """That a text is written, and read back."""
        self.assertEqual(show(thing), text)
        again = call(text)
        self.assertEqual(again, thing)
        self.assertIs(type(again), type(thing))
        if not isinstance(thing, (Script, Schema, Tables)):
            # The same kinds of values in it, too; dicts are told ascending.
            self.assertEqual(again, eval(repr(again)))
            self.assertEqual(show(again), text)
        self.refuses(call, text.encode(), [text], (text,), {text: text})

    def bends(self, call, show, text):
        """That other texts are read only if they are just what is written of what they tell; returns how many are."""
        many = 0
        for other in bent(text):
            try:
                thing = call(other)
            except NoText:
                continue
            self.assertEqual(show(thing), other)
            many += 1
        return many

    def others(self, call, *texts):
        """That no other values are read."""
        self.refuses(call, *[thing for thing in [*ODD, deep(30)] if thing != ""], *texts)


class TestsTest(ReadersCase):
    def setUp(self):
        self.call = lambda text: read_tests(tree(), "task", text)

    def test_read(self):
        wanted = [([], "[]"), ([OPEN, ("none", "boss"), ("not", ("none", "boss")), ("new", "boss", "top"), ("row", "top"), ("at", "boss", [OPEN])],
                               "[is state open; none boss; not none boss; new boss top; row top; at boss [is state open]]"),
                  ([("is", "state", ["open", "done", "open"])], "[is state open done open]"), ([("at", "boss", [])], "[at boss []]"),
                  ([("not", ("at", "boss", [not_nested(OPEN, 4)]))], "[not at boss [not not not not is state open]]"),
                  ([not_nested(("row", "not"), 4)], "[not not not not row not]"), ([("none", "code")] * 40, "[" + "; ".join(["none code"] * 40) + "]")]
        for tests, text in wanted:
            self.reads(self.call, show_tests, tests, text)
            self.bends(self.call, show_tests, text)

    def test_refused(self):
        self.others(self.call, "", "[", "]", "][", "[]]", "[[]]", "[] []", "{}", "[is state]", "[is state other]", "[is boss open]", "[none]", "[none state]",
                    "[none boss;]", "[none boss; ]", "[; none boss]", "[none boss;none code]", "[none boss;  none code]", "[none boss ; none code]",
                    "[ none boss]", "[none boss ]", "[none  boss]", "[none boss", "none boss]", "none boss", "[not]", "[not not]", "[not  none boss]",
                    "[" + "not " * 5 + "none boss]", "[" + "not " * 400 + "none boss]", "[new boss]", "[new code top]", "[new boss Top]", "[row]",
                    "[row toptoptop]", "[row top top]", "[at boss]", "[at boss none boss]", "[at boss [none boss]", "[at boss [none boss]]]",
                    "[at code []]", "[at boss [] []]", "[at boss [row top]]", "[at boss [at boss []]]", "[at  boss []]", "[at boss[]]", "[none boss]\n",
                    "[at boss [" + "not " * 5 + "none boss]]", "[none boss; none boss", "[is state open done; none boss]]", "[is state [open]]", "[none [boss]]",
                    "[is state {open}]", "[at boss {}]", "[none boss\n; none code]", "[(none boss)]", "[nonsense boss]", "[none boss code]")

    def test_tables(self):
        """Tests of the table that is told."""
        schema = shop()
        self.assertEqual(read_tests(schema, "maker", "[at best [is kind big]; new other h]"), [("at", "best", [("is", "kind", ["big"])]), ("new", "other", "h")])
        self.refuses(lambda text: read_tests(schema, "item", text), "[none best]", "[at best []]", "[at maker [is kind big]]")
        self.assertEqual(read_tests(schema, "plain", "[row h]"), [("row", "h")])


class StatementsTest(ReadersCase):
    def setUp(self):
        self.call = lambda text: read_statement(tree(), text)

    def test_read(self):
        change = ("change", "task", [("row", "h")], {"boss": ("field", "boss"), "code": ("field", "code"), "state": "done"})
        wanted = [(TOP, "put top task [boss +top; code =x; state open]"), (change, "change task [row h] [boss @boss; code @code; state done]"),
                  (("put", "h", "task", {"boss": None, "code": ("own",), "state": "done"}), "put h task [boss -; code own; state done]"),
                  (("change", "task", [], {"boss": None}), "change task [] [boss -]"), (TAKE, "take task []"),
                  (("switch", ["whole", "code"], "late"), "switch whole code late"), (("switch", ["some"], "each"), "switch some each"),
                  (("trial", []), "trial {}"), (("trial", [TAKE, TAKE]), "trial {take task []; take task []}"), (("try", [], [], []), "try {} [] {}"),
                  (("try", [TAKE, change], ["some", "whole"], [("trial", [TAKE])]),
                   "try {take task []; change task [row h] [boss @boss; code @code; state done]} [some whole] {trial {take task []}}")]
        for statement, text in wanted:
            self.reads(self.call, show_statement, statement, text)
            self.bends(self.call, show_statement, text)

    def test_deep(self):
        """Blocks within blocks, up to twenty brackets."""
        for many in [1, 4, 5, 12, 19]:
            statement, text = TAKE, "take task []"
            for _ in range(many):
                statement, text = ("trial", [statement]), "trial {" + text + "}"
            self.reads(self.call, show_statement, statement, text)
        with self.assertRaises(CheckError):
            self.call("trial {" * 3000 + "}" * 3000)

    def test_words_that_are_told_otherwise_elsewhere(self):
        """A mark may have the word "own", fields and tables names like those of statements."""
        fields = {"own": ("mark", ["own", "put"]), "not": ("tag",), "at": ("link", "put")}
        schema = Schema({"put": fields, "take": {}}, [("late", "some", "put", [])])
        call = lambda text: read_statement(schema, text)
        wanted = [(("put", "put", "put", {"own": "own", "not": ("own",), "at": None}), "put put put [at -; not own; own own]"),
                  (("put", "own", "put", {"own": "put", "not": ("word", "own"), "at": ("new", "own")}), "put own put [at +own; not =own; own put]"),
                  (("change", "put", [("not", ("none", "not")), ("at", "at", [("is", "own", ["own"])]), ("row", "row")], {"own": "own"}),
                   "change put [not none not; at at [is own own]; row row] [own own]"),
                  (("take", "take", []), "take take []"), (("put", "h", "take", {}), "put h take []"), (("switch", ["late"], "late"), "switch late late"),
                  (("try", [], ["late"], []), "try {} [late] {}")]
        for statement, text in wanted:
            self.reads(call, show_statement, statement, text)
            self.bends(call, show_statement, text)
        self.refuses(call, "put h put [at own; not -; own own]", "put h put [at -; not -; own =own]", "change put [] [not own]", "change put [] [own @own]")

    def test_refused(self):
        self.others(
            self.call, "", "put", "put top", "put top task", "put top task [boss -; code -]", "put top task [boss -; code -; state other]",
            "put top task [state open; boss -; code -]", "put top task [boss -; boss -; code -; state open]", "put top task [boss -; code -; state open; x -]",
            "put top task [boss +; code -; state open]", "put top task [boss top; code -; state open]", "put top task [boss =top; code -; state open]",
            "put top task [boss -; code x; state open]", "put top task [boss -; code +x; state open]", "put top task [boss -; code @code; state open]",
            "put top task [boss own; code -; state open]", "put top task [boss -; code -; state -]", "put top task [boss -; code -; state =open]",
            "put top task [boss -; code; state open]", "put top task [boss -; code ; state open]", "put top task [boss -; code - -; state open]",
            "put top other [boss -; code -; state open]", "put +top task [boss -; code -; state open]", "put top task {boss -; code -; state open}",
            "put top task [boss -; code -; state open] ", "put top  task [boss -; code -; state open]", "put task [boss -; code -; state open]",
            "put top task [boss -;code -; state open]", "put toptoptop task [boss -; code -; state open]", "put top task []",
            "change task [] []", "change task []", "change task [boss -]", "change task [] [boss own]", "change task [] [code =x]", "change task [] [code @boss]",
            "change task [] [state @state]", "change task [] [boss -] []", "change other [] [boss -]", "change task [] [code -; boss -]", "change task [] [other -]",
            "take task", "take [] task", "take task [] []", "take other []", "take task {}", "take task [none state]", "take task []\n", "take task[]",
            "switch", "switch late", "switch whole", "switch whole soon", "switch other late", "switch whole whole late", "switch [whole] late", "switch whole  late",
            "trial", "trial []", "trial {} {}", "trial {{}}", "trial {take task []", "trial {take task [];}", "trial {; take task []}", "trial {take task [];take task []}",
            "trial {take task []}}", "trial{}", "trial { }", "trial {take task [] }", "trial {\ntake task []}", "trial {take task []; }", "trial {take other []}",
            "try {} {}", "try {} []", "try {} [code] {}", "try {} [other] {}", "try {} [some some] {}", "try {} [some; whole] {}", "try {} [some  whole] {}",
            "try {} [ some] {}", "try {} {some} {}", "try [] [] []", "try {} [] {} {}", "try {} [some]{}", "try {} [[some]] {}", "tries {} [] {}", "Take task []")

    def test_what_is_told_is_new(self):
        text = "try {change task [none boss] [state done]} [whole] {}"
        statement = self.call(text)
        statement[1][0][2].clear()
        statement[2].append("x")
        self.assertEqual(show_statement(self.call(text)), text)


class ScriptsTest(ReadersCase):
    def setUp(self):
        self.call = lambda text: read_script(tree(), text)

    def test_read(self):
        for body, text in [([], ""), ([TAKE], "take task []\n"), ([TOP, ("trial", [TAKE]), TAKE],
                                                                "put top task [boss +top; code =x; state open]\ntrial {take task []}\ntake task []\n")]:
            self.reads(self.call, show_script, Script(tree(), body), text)
            self.bends(self.call, show_script, text)

    def test_refused(self):
        top = show_statement(TOP)
        low = "put {} task [boss -; code -; state open]\n"
        self.others(
            self.call, "\n", " ", "take task []", "take task []\n\n", "\ntake task []\n", "take task []\n ", "take task []\n\ntake task []\n", "take task [] \n",
            " take task []\n", "take task []; take task []\n", "take other []\n", "take task [row top]\n", top + "\n" + top + "\n", top, "take task [at boss []]\n",
            "take task []\n" * 13, "".join(low.replace("{}", handle) for handle in "abcde"), "trial {" * 4 + "take task []" + "}" * 4 + "\n", "x\n",
            "trial {\ntake task []}\n", "take task []\r\n")
        self.assertEqual(len(self.call("take task []\n" * 12)), 12)
        self.assertEqual(len(self.call("".join(low.replace("{}", handle) for handle in "abcd"))), 4)
        self.assertEqual(len(self.call("trial {" * 3 + "take task []" + "}" * 3 + "\n")), 4)


class AddressesTest(ReadersCase):
    def test_read(self):
        for address, text in [((), "-"), ((0,), "0"), ((0, 1, 2), "0.1.2"), ((10, 0), "10.0"), ((999999999,), "999999999"), ((0,) * 20, ".".join("0" * 20)),
                              ((123456789, 0, 100000000), "123456789.0.100000000")]:
            self.reads(read_address, show_address, address, text)
            self.bends(read_address, show_address, text)
            self.assertTrue(all(type(number) is int for number in read_address(text)))

    def test_refused(self):
        self.others(read_address, "", "--", "-1", "+1", "00", "01", "0.01", "0.00", "1000000000", "0.1000000000", "0000000001", "9" * 5000, ".", "0.", ".0",
                    "0..1", "0.-", "-.0", "0 ", " 0", "0\n", "0. 1", "0,1", "a", "0.a", "1_0", "0x1", "1e1", "0;1", "[0]", "\u0662", "\u00b2", "()", "- ", "-\n")


class SchemasTest(ReadersCase):
    TEXT = ("table task\nlink boss task\ntag code\nmark state done open\nrule whole link task boss [] [is state open]\nrule some some task []\n"
            "rule code unique task code\n")

    def test_read(self):
        ok = ("ok", "check", "task", [not_nested(OPEN, 4), ("none", "boss")])
        wanted = [(tree(), self.TEXT), (tree([]), "table task\nlink boss task\ntag code\nmark state done open\n"), (Schema({"t": {}}), "table t\n"),
                  (tree([ok, RULES[2]]), "table task\nlink boss task\ntag code\nmark state done open\n"
                   "rule ok check task [not not not not is state open; none boss]\nrule code unique task code\n")]
        for schema, text in wanted:
            self.reads(read_schema, show_schema, schema, text)
            self.bends(read_schema, show_schema, text)
        self.reads(read_schema, show_schema, shop(), show_schema(shop()))

    def test_names_that_are_words(self):
        fields = {"mark": ("mark", ["mark"]), "link": ("link", "table"), "tag": ("tag",), "table": ("tag",), "rule": ("mark", ["rule", "tag"])}
        schema = Schema({"table": fields, "rule": {}}, [("rule", "check", "rule", []), ("link", "link", "table", "link", [], [])])
        self.reads(read_schema, show_schema, schema, show_schema(schema))
        self.bends(read_schema, show_schema, show_schema(schema))

    def test_refused(self):
        lines = self.TEXT.split("\n")[:-1]
        turned = ["\n".join(lines[:at] + [lines[at + 1], lines[at]] + lines[at + 2:]) + "\n" for at in range(4)]
        twice = ["\n".join(lines[:at] + [lines[at]] + lines[at:]) + "\n" for at in range(len(lines))]
        self.others(
            read_schema, "", "\n", "table t", "table t\n\n", "\ntable t\n", "table t \n", "table  t\n", "table\n", "table T\n", "table t t\n", "tag code\n", "rule a some t []\n",
            *turned, *twice, "table t\ntable s\n", "table a\ntable b\ntable c\ntable d\n", "table t\nlink x s\n", "table t\nlink x\n", "table t\nlink x t t\n", "table t\ntag\n",
            "table t\ntag x x\n", "table t\nmark m\n", "table t\nmark m b a\n", "table t\nmark m a a\n", "table t\nmark m a b c d e\n", "table t\nmark m a  b\n",
            "table t\nmark m [a]\n", "table t\ntag b\ntag a\n", "table t\ntag a\ntag b\ntag c\n", "table t\nword a\n", "table t\nrule a some s []\n", "table t\nrule some t []\n",
            "table t\nrule a some t\n", "table t\nrule a some t [] []\n", "table t\nrule a other t []\n", "table t\nrule A some t []\n", "table t\nrule a some t [row h]\n",
            "table t\nrule a some t []\nrule a check t []\n", "table t\nrule a some t []\ntag x\n", "table t\nrule a some t []\ntable u\n", "table t\nrule a unique t x\n",
            "table t\ntag x\nrule a unique t [x]\n", "table t\nlink x t\nrule a link t x []\n", "table t\nlink x t\nrule a link t x [] [] []\n",
            "table t\nlink x t\nrule a link t x [] [at x []]\n", "table t\nlink x t\nrule a link t x [none x; ] []\n", "table t\nrule a some t {}\n", "table t\nrule\n",
            "table t\n" + "".join(f"rule {name} some t []\n" for name in "abcdefg"), "table t\nrule a some t [" + "not " * 5 + "none x]\n", "table t\nrule [a] some t []\n")
        self.assertEqual(len(read_schema("table t\n" + "".join(f"rule {name} some t []\n" for name in "abcdef")).rules()), 6)


class TablesTest(ReadersCase):
    def setUp(self):
        self.call = lambda text: read_tables(tree(), text)

    def test_read(self):
        wanted = [(Tables(tree()), ""), (tasks({"a": ("open", "b", "x")}), "task a [boss b; code x; state open]\n"),
                  (tasks({"+top": ("open", "+top", "+top.code"), "a": ("done",), "b": ("open", "+a", "own")}),
                   "task +top [boss +top; code +top.code; state open]\ntask a [boss -; code -; state done]\ntask b [boss +a; code own; state open]\n")]
        for tables, text in wanted:
            self.reads(self.call, show_tables, tables, text)
            self.bends(self.call, show_tables, text)

    def test_two_hundred_rows(self):
        tables = many_tasks(200)
        self.assertEqual(self.call(show_tables(tables)), tables)
        lines = show_tables(tables).split("\n")
        more = sorted([*lines[:-1], "task zzzzzzzz [boss -; code -; state open]"])
        self.refuses(self.call, "\n".join(more) + "\n")

    def test_several_tables(self):
        schema = shop()
        text = "item c [kind big; maker b; name -; nick own]\nmaker a [best c; name n; other nobody]\nplain b []\n"
        self.reads(lambda text: read_tables(schema, text), show_tables, read_tables(schema, text), text)
        lines = text.split("\n")[:-1]
        for turned in [[1, 0, 2], [0, 2, 1], [2, 1, 0], [0, 0, 1]]:
            self.refuses(lambda text: read_tables(schema, text), "\n".join(lines[at] for at in turned) + "\n")
        # One id in two tables.
        self.refuses(lambda text: read_tables(schema, text), text + "plain c []\n", "maker b [best -; name -; other -]\nplain b []\n")

    def test_refused(self):
        one, two = "task a [boss -; code -; state open]\n", "task b [boss a; code -; state open]\n"
        self.others(
            self.call, "\n", one[:-1], one + "\n", "\n" + one, two + one, one + one, one + one.replace("open", "done"), " " + one, one.replace(" a", "  a"), "task a\n",
            "task a []\n", "task A [boss -; code -; state open]\n", "task + [boss -; code -; state open]\n", "other a [boss -; code -; state open]\n",
            "task a [code -; boss -; state open]\n", "task a [boss -; code -]\n", "task a [boss -; code -; state open; state open]\n", "task a [boss -; code -; state other]\n",
            "task a [boss -; code -; state -]\n", "task a [boss =a; code -; state open]\n", "task a [boss +a.b; code -; state open]\n", "task a [boss -; code +a; state open]\n",
            "task a [boss -; code +a.b.c; state open]\n", "task a [boss @boss; code -; state open]\n", "task a [boss -; code -; state open; x y]\n",
            "task a [boss - -; code -; state open]\n", "task a {boss -; code -; state open}\n", "task a [boss -; code -; state open] x\n", "task a [boss -;code -; state open]\n",
            "[boss -; code -; state open]\n", "task [boss -; code -; state open]\n", "task a [boss None; code -; state open]\n", "task a [boss ; code -; state open]\n")


class PathsTest(ReadersCase):
    def test_read(self):
        wanted = [(((), None), "done"), (((), ((1,), "code")), "failed 1 code"), (((), ((), "some")), "failed - some"),
                  (((((0, 0, 0), "whole"),), None), "caught 0.0.0 whole; done"), (((), ((0,), "done")), "failed 0 done"),
                  (((((0, 0, 0), "whole"), ((10, 1, 2), "some")), ((11,), "code")), "caught 0.0.0 whole; caught 10.1.2 some; failed 11 code")]
        for path, text in wanted:
            self.reads(read_path, show_path, path, text)
            self.bends(read_path, show_path, text)

    def test_refused(self):
        self.others(
            read_path, "", "done; done", "done;", "done ", " done", "done\n", "failed", "failed 1", "failed code", "failed 01 code", "failed 1 Code", "failed 1 codecodec",
            "failed 1 code; done", "done; failed 1 code", "caught 0 whole", "caught 0 whole;done", "caught 0 whole;  done", "caught 0 whole done", "caught 0 whole; ",
            "done; caught 0 whole", "failed 1 code; failed 1 code", "failed 1 code code", "failed 1  code", "failed 1000000000 code", "caught 0.00.0 whole; done", "[done]",
            "failed 1 [code]", "failed 1 +code", "failed 1 ", "failed  code", "caught -1 whole; done", "Done", "doned", "failed 1. code", "done; ", "; done", "caught done")


class ModesTest(ReadersCase):
    def setUp(self):
        self.call = lambda text: read_modes(tree(), text)

    def test_read(self):
        for modes, text in [({}, ""), ({"whole": "late"}, "whole late"), ({"code": "each", "some": "now", "whole": "late"}, "code each; some now; whole late")]:
            self.reads(self.call, show_modes, modes, text)
            self.bends(self.call, show_modes, text)
            self.assertEqual(list(self.call(text)), sorted(modes))

    def test_refused(self):
        self.others(self.call, " ", "\n", "whole", "whole soon", "other late", "whole late;", "whole late; ", "; whole late", "whole late; some now", "some now; some now",
                    "some now; some late", "some now;whole late", "some now;  whole late", "some now ; whole late", "whole  late", "whole late ", "whole late\n", " whole late",
                    "whole late now", "late whole", "[whole late]", "whole [late]", "whole: late", "-", "Whole late", "whole; late")
        self.assertEqual(read_modes(tree([]), ""), {})
        self.refuses(lambda text: read_modes(tree([]), text), "whole late")


class DeedsTest(ReadersCase):
    def setUp(self):
        self.call = lambda text: read_deed(tree(), text)

    def test_read(self):
        wanted = [(("insert", (0, 1, 1), TAKE), "insert 0.1.1 take task []"), (("remove", (0,)), "remove 0"), (("mode", "whole", "late"), "mode whole late"),
                  (("remove", ()), "remove -"), (("insert", (), ("trial", [("trial", []), TAKE])), "insert - trial {trial {}; take task []}"),
                  (("insert", (7,), TOP), "insert 7 put top task [boss +top; code =x; state open]"), (("insert", (0, 0), ("switch", ["some", "whole"], "now")), "insert 0.0 switch some whole now"),
                  (("insert", (3,), ("try", [TAKE], ["whole"], [("change", "task", [OPEN], {"boss": None})])), "insert 3 try {take task []} [whole] {change task [is state open] [boss -]}")]
        for deed, text in wanted:
            self.reads(self.call, show_deed, deed, text)
            self.bends(self.call, show_deed, text)

    def test_refused(self):
        self.others(
            self.call, "", "insert", "insert 0", "insert take task []", "insert 0 take", "insert 0 take other []", "insert 00 take task []", "insert 0  take task []",
            "insert 0 take task []\n", "insert 0 take task [] ", "insert 0. take task []", "insert -0 take task []", "insert a take task []", "insert 0 [take task []]",
            "insert 0 trial {take task []", "insert 0 try {} [code] {}", "insert 0 take task []; take task []", "insert 1000000000 take task []", "remove", "remove ", "remove 0 0",
            "remove 01", "remove a", "remove 0\n", "remove 0.", "remove [0]", "remove 1000000000", "mode", "mode whole", "mode other late", "mode whole soon",
            "mode whole late ", "mode  whole late", "mode whole late now", "mode [whole] late", "mode Whole late", "back", "again", "insert 0 mode whole late", "Remove 0",
            "take task []", "modes", "remove 0; remove 0")


class LogsTest(ReadersCase):
    def test_read(self):
        script = Script(tree(), [TAKE])
        book = Book(script, {"whole": "late"})
        self.assertEqual(read_log(script, {"whole": "late"}, ""), book)
        for deed in [("insert", (1,), ("trial", [])), ("insert", (1, 0, 0), TOP), ("mode", "whole", "each"), ("remove", (0,)), ("mode", "some", "now")]:
            book.do(deed)
            text = show_log(book)
            again = read_log(script, {"whole": "late"}, text)
            self.assertIsInstance(again, Book)
            self.assertEqual([again, again.script(), again.modes(), again.log()], [book, book.script(), book.modes(), book.log()])
            self.assertNotEqual(read_log(script, {"whole": "now"}, text), book)
        self.assertEqual(script, Script(tree(), [TAKE]))

    def test_refused(self):
        call = lambda text: read_log(Script(tree(), [TAKE]), {}, text)
        self.others(call, "\n", "remove 0", "remove 0\n\n", "\nremove 0\n", "remove 00\n", " remove 0\n", "remove 0 \n", "remove 0; mode whole late\n", "mode whole soon\n",
                    "mode whole late\nremove\n", "back\n", "mode whole late\n\nmode whole late\n", "insert 0 take other []\n")
        for text in bent("insert 0 trial {}\nmode whole late\nremove 1\n"):
            try:
                self.assertEqual(show_log(call(text)), text)
            except (NoText, NoPlace):
                pass

    def test_what_the_book_refuses(self):
        """What the first such deed raises, behind NoText of any line."""
        script = Script(tree(), [TAKE])
        call = lambda text: read_log(script, {}, text)
        self.refused(NoPlace, "address", (5,), call, "remove 5\n")
        self.refused(NoPlace, "address", (5,), call, "mode whole late\nremove 5\nremove 6\n")
        self.refused(NoPlace, "address", (0,), call, "remove 0\nremove 0\n")
        self.refused(Unput, "handle", "top", call, "insert 0 take task [row top]\nremove 9\n")
        put = "insert 0 put top task [boss -; code -; state open]\n"
        self.refused(Twice, "handle", "top", call, put + put)
        self.refused(BadStatement, "address", (0,), call, "insert 0 take task [at boss []]\n")
        self.refused(Full, "limit", 12, call, "insert 0 take task []\n" * 12)
        self.refused(Full, "limit", 60, call, "mode whole late\n" * 61)
        self.assertEqual(len(call("mode whole late\n" * 60)), 60)
        self.refuses(call, "remove 5\nremove\n", "remove 5\nremove 6", "remove 5\n\n", "mode whole late\n" * 61 + "x\n", "remove 5\nmode whole late \n", put + put + "take task []\n")


class DrawnTest(ReadersCase):
    """Guarantee 15."""

    def draw(self, seed):
        chance = random.Random(seed)
        if seed % 2:
            schema, script, modes = draw_lively(chance)
        else:
            schema = draw_schema(chance, 3, 4, 4)
            script, modes = draw_script(chance, schema, 3), draw_modes(chance, schema)
        return chance, schema, script, modes

    def test_read_back(self):
        for seed in range(250):
            chance, schema, script, modes = self.draw(seed)
            self.assertEqual(read_schema(show_schema(schema)), schema)
            self.assertEqual(read_script(schema, show_script(script)), script)
            self.assertEqual(read_modes(schema, show_modes(modes)), modes)
            for address in script.addresses():
                statement = script.statement_at(address)
                self.assertEqual(read_statement(schema, show_statement(statement)), statement)
                self.assertEqual(read_address(show_address(address)), address)
                deed = chance.choice([("insert", address, statement), ("remove", address)])
                self.assertEqual(read_deed(schema, show_deed(deed)), deed)
            table = chance.choice(schema.tables())
            tests = draw_far_tests(chance, schema, table, ["h", "i"], 4)
            self.assertEqual(read_tests(schema, table, show_tests(tests)), tests)
            self.reads_tables(chance, schema, script, modes)

    def reads_tables(self, chance, schema, script, modes):
        tables = draw_legal(chance, schema)
        for one in [draw_tables(chance, schema)] + [run(script, tables, modes)[1] for _ in [0] if tables is not None]:
            self.assertEqual(read_tables(schema, show_tables(one)), one)
        if how_many(schema, script.looks()) <= 40:
            for path in paths(script, modes)[:10]:
                self.assertEqual(read_path(show_path(path)), path)

    def test_logs_are_read_back(self):
        for seed in range(120):
            chance, schema, script, modes = self.draw(seed)
            book = Book(script, modes)
            for _ in range(12):
                places = book.script().addresses() + [(len(book.script().body()),)]
                inner = chance.choice(draw_script(chance, schema, 2).body() or [("trial", [])])
                deed = chance.choice([("insert", chance.choice(places), inner), ("remove", chance.choice(places))])
                if schema.names() and chance.random() < 0.3:
                    deed = ("mode", chance.choice(schema.names()), chance.choice(["each", "now", "late"]))
                try:
                    book.do(deed)
                except CheckError:
                    pass
            again = read_log(script, modes, show_log(book))
            self.assertEqual([again, again.script(), again.modes()], [book, book.script(), book.modes()])

    def test_bent(self):
        """Other texts are refused, or they are what is written of something else."""
        many = 0
        for seed in range(14):
            chance, schema, script, modes = self.draw(seed)
            tables = draw_tables(chance, schema, 2)
            every = [(read_schema, show_schema, show_schema(schema)), (lambda text: read_script(schema, text), show_script, show_script(script)),
                     (lambda text: read_modes(schema, text), show_modes, show_modes(modes)),
                     (lambda text: read_tables(schema, text), show_tables, show_tables(tables))]
            for call, show, text in every:
                many += self.bends(call, show, text) if len(text) < 300 else 0
        self.assertGreater(many, 20)

    def test_signs(self):
        """Texts that are drawn sign by sign, or word by word."""
        words = ["task", "boss", "code", "state", "open", "whole", "late", "[", "]", "{", "}", "; ", ";", " ", " ", "-", "0", ".", "take", "not", "none", "is", "row", "trial",
                 "try", "put", "\n", "done", "failed", "caught", "mode", "remove", "insert", "table", "rule", "some"]
        calls = [lambda text: read_tests(tree(), "task", text), lambda text: read_statement(tree(), text), lambda text: read_script(tree(), text), read_address,
                 read_schema, lambda text: read_tables(tree(), text), read_path, lambda text: read_modes(tree(), text), lambda text: read_deed(tree(), text)]
        shows = [show_tests, show_statement, show_script, show_address, show_schema, show_tables, show_path, show_modes, show_deed]
        chance = random.Random(5)
        for _ in range(3000):
            text = "".join(chance.choice(words) for _ in range(chance.randint(0, 12)))
            for call, show in zip(calls, shows):
                try:
                    thing = call(text)
                except NoText:
                    continue
                self.assertEqual(show(thing), text)


if __name__ == "__main__":
    unittest.main()
