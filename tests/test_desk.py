"""Point 103: lines that a Book and Tables are told what to do by."""

import copy
import random
import unittest

from endchecks.books import Book
from endchecks.desk import Desk
from endchecks.errors import (
    BadStatement, CheckError, Full, Illegal, NoCommand, NoPlace, NoRow, Nothing, Taken, TooMany, Twice, Unput, Wrong)
from endchecks.needed import needed_modes
from endchecks.notation import show_deed, show_log, show_modes, show_path, show_script, show_statement, show_tables
from endchecks.paths import paths
from endchecks.rowkinds import how_many
from endchecks.runs import run
from endchecks.schemas import Schema
from endchecks.scripts import Script
from endchecks.spots import first_broken
from endchecks.tables import Tables
from tests.cases import RaisesCase
from tests.drawn import draw_lively, draw_row, draw_script
from tests.samples import ODD, deep, shop, tree
from tests.test_tables import name_of

END = ("change", "task", [("none", "boss")], {"state": "done", "code": None})
CUT = ("change", "task", [("not", ("none", "boss"))], {"boss": None})
NEW = ("put", "top", "task", {"state": "open", "boss": ("new", "top"), "code": ("word", "x")})
TRY = ("try", [END, ("switch", ["whole"], "now")], ["whole"], [CUT])
ROW = "row task a [boss -; code x; state open]"
QUERIES = ["script", "log", "modes", "tables", "legal", "run", "paths", "needed"]


def plan():
    return Script(tree(), [TRY, NEW])


def plain(body=(END, CUT)):
    return Desk(Script(tree(), [*body]), {})


def told(desk):
    """All that a Desk tells, also of what can be taken back and done again; lines that lead to errors tell these."""
    other = copy.deepcopy(desk)
    found = [answer(desk, line) for line in QUERIES]
    for line in ["again", "back"]:
        for _ in range(61):
            found.append(answer(other, line))
    return found


def answer(desk, line):
    try:
        return desk.execute(line)
    except CheckError as error:
        return (type(error).__name__, vars(error))


class DeskCase(RaisesCase):
    def says(self, desk, *pairs):
        for line, awaited in pairs:
            self.assertEqual(desk.execute(line), awaited, line)

    def bare(self, desk, kind, *lines):
        """That lines raise an error without fields and change nothing."""
        before = told(desk)
        for line in lines:
            with self.assertRaises(kind, msg=repr(line)) as caught:
                desk.execute(line)
            self.assertIs(type(caught.exception), kind)
        self.assertEqual(told(desk), before)

    def unchanged(self, desk, kind, field, value, line):
        """That a line raises an error and changes nothing."""
        before = told(desk)
        self.refused(kind, field, value, desk.execute, line)
        self.assertEqual(told(desk), before)


class MadeTest(DeskCase):
    def test_wrong(self):
        for thing in [*ODD, deep(30), tree(), plan().body(), Book(plan(), {}), Tables(tree())]:
            self.refused(Wrong, "place", 0, Desk, thing, {})
            self.refused(Wrong, "place", 0, Desk, thing, None)
        for thing in [thing for thing in [*ODD, deep(30)] if repr(thing) != "{}"]:
            self.refused(Wrong, "place", 1, Desk, plan(), thing)
        for modes in [{"other": "now"}, {"whole": "soon"}, {"whole": None}, {None: "now"}, [("whole", "now")]]:
            self.refused(Wrong, "place", 1, Desk, plan(), modes)

    def test_at_first(self):
        desk = Desk(plan(), {"whole": "late"})
        self.says(desk, ("script", show_script(plan())), ("log", ""), ("modes", "code now; some now; whole late"), ("tables", ""),
                  ("legal", "some"))
        self.says(Desk(Script(Schema({"t": {}}), []), {}), ("script", ""), ("modes", ""), ("legal", "legal"), ("run", "done"), ("paths", "done\n"),
                  ("needed", ""))

    def test_what_is_passed_in_is_copied(self):
        modes = {"whole": "late"}
        desk = Desk(plan(), modes)
        modes["whole"] = "each"
        self.says(desk, ("modes", "code now; some now; whole late"))

    def test_of_the_document(self):
        desk = Desk(plan(), {})
        self.says(desk, (ROW, "-"), ("run", "done"), ("mode whole each", "-"), ("back", "mode whole each"))


class DeedsTest(DeskCase):
    def test_deeds(self):
        desk = Desk(plan(), {})
        insert = "insert 0.1.1 take task [none boss]"
        self.says(desk, (insert, "-"), ("remove 1", "-"), ("mode code late", "-"), ("log", insert + "\nremove 1\nmode code late\n"),
                  ("modes", "code late; some now; whole now"))
        text = ("try {change task [none boss] [code -; state done]; switch whole now} [whole] "
                "{change task [not none boss] [boss -]; take task [none boss]}\n")
        self.says(desk, ("script", text))
        self.says(desk, ("back", "mode code late"), ("back", "remove 1"), ("log", insert + "\n"),
                  ("script", text + show_statement(NEW) + "\n"), ("modes", "code now; some now; whole now"))
        self.says(desk, ("again", "remove 1"), ("script", text), ("log", insert + "\nremove 1\n"), ("again", "mode code late"))
        self.bare(desk, Nothing, "again")
        self.says(desk, ("back", "mode code late"), ("mode some each", "-"))
        self.bare(desk, Nothing, "again")
        self.says(desk, ("back", "mode some each"), ("back", "remove 1"), ("back", insert), ("script", show_script(plan())), ("log", ""))
        self.bare(desk, Nothing, "back")
        self.says(desk, ("again", insert))

    def test_every_statement(self):
        """Each of them is put in, told, and left out."""
        for statement in [END, CUT, ("take", "task", [("row", "top")]), TRY, ("trial", [TRY, ("trial", [])]), ("switch", ["some", "whole"], "late")]:
            desk = Desk(Script(tree(), [NEW]), {})
            text = show_statement(statement)
            self.says(desk, ("insert 1 " + text, "-"), ("script", show_statement(NEW) + "\n" + text + "\n"), ("back", "insert 1 " + text))

    def test_what_the_book_raises(self):
        desk = Desk(plan(), {})
        self.unchanged(desk, NoPlace, "address", (9,), "remove 9")
        self.unchanged(desk, NoPlace, "address", (), "remove -")
        self.unchanged(desk, NoPlace, "address", (), "insert - take task []")
        self.unchanged(desk, NoPlace, "address", (0, 2, 0), "insert 0.2.0 take task []")
        self.unchanged(desk, Twice, "handle", "top", "insert 0 " + show_statement(NEW))
        self.unchanged(desk, Unput, "handle", "low", "insert 0 take task [row low]")
        self.unchanged(desk, BadStatement, "address", (1,), "insert 1 take task [at boss []]")
        self.unchanged(desk, Full, "limit", 12, "insert 0 trial {" + "; ".join(["take task []"] * 12) + "}")
        self.bare(desk, Nothing, "back", "again")
        for at in range(60):
            desk.execute("mode whole " + ["late", "now"][at % 2])
        self.unchanged(desk, Full, "limit", 60, "mode whole late")
        self.unchanged(desk, Full, "limit", 60, "remove 9")
        self.bare(desk, NoCommand, "mode other late", "remove 00")
        self.says(desk, ("back", "mode whole now"), ("remove 0", "-"))


class RowsTest(DeskCase):
    def test_rows(self):
        desk = plain()
        self.says(desk, ("tables", ""), ("row task b [boss a; code -; state done]", "-"), (ROW, "-"),
                  ("tables", "task a [boss -; code x; state open]\ntask b [boss a; code -; state done]\n"), ("legal", "legal"))
        # In the place of the one that is there.
        self.says(desk, ("row task a [boss nobody; code own; state done]", "-"), ("legal", "whole"),
                  ("tables", "task a [boss nobody; code own; state done]\ntask b [boss a; code -; state done]\n"))
        self.says(desk, ("drop task a", "-"), ("tables", "task b [boss a; code -; state done]\n"), ("drop task b", "-"), ("tables", ""))
        self.says(desk, ("legal", "some"))
        # Rows are no deeds.
        self.says(desk, ("log", ""))
        self.bare(desk, Nothing, "back")

    def test_several_tables(self):
        desk = Desk(Script(shop([("u", "unique", "maker", "name"), ("c", "check", "item", [("none", "nick")])]), []), {})
        self.says(desk, ("row plain p []", "-"), ("row maker m [best i; name x; other m]", "-"), ("row item i [kind big; maker m; name x; nick -]", "-"))
        self.says(desk, ("tables", "item i [kind big; maker m; name x; nick -]\nmaker m [best i; name x; other m]\nplain p []\n"), ("legal", "legal"))
        self.says(desk, ("row item j [kind big; maker -; name -; nick y]", "-"), ("legal", "c"), ("row maker n [best -; name x; other -]", "-"), ("legal", "u"))
        self.unchanged(desk, Taken, "ident", "m", "row plain m []")
        self.unchanged(desk, NoRow, "ident", "m", "drop plain m")
        self.unchanged(desk, NoRow, "ident", "q", "drop plain q")
        self.says(desk, ("drop plain p", "-"))
        self.unchanged(desk, NoRow, "ident", "p", "drop plain p")

    def test_full(self):
        desk = plain([])
        for number in range(200):
            self.assertEqual(desk.execute("row task " + name_of(number) + " [boss -; code -; state open]"), "-")
        self.unchanged(desk, Full, "limit", 200, "row task zzzzzzzz [boss -; code -; state open]")
        self.says(desk, ("row task " + name_of(7) + " [boss -; code x; state done]", "-"), ("run", "done"), ("insert 0 " + show_statement(NEW), "-"))
        self.unchanged(desk, Full, "limit", 200, "run")
        self.says(desk, ("drop task " + name_of(7), "-"), ("run", "done"))

    def test_other_lines(self):
        desk = plain()
        self.says(desk, (ROW, "-"))
        self.bare(
            desk, NoCommand, "row", "row ", "row  task b [boss -; code -; state open]", "row task b", "row task b []", "row task [boss -; code -; state open]",
            "row other b [boss -; code -; state open]", "row task B [boss -; code -; state open]", "row task b [boss -; code -]",
            "row task b [code -; boss -; state open]", "row task b [boss -; code -; state other]", "row task b [boss -; code -; state -]",
            "row task b [boss -; code -; state open] ", "row task b [boss -; code -; state open]\n", " row task b [boss -; code -; state open]",
            "row task b [boss -; code -; state open]\ntask c [boss -; code -; state open]", "row task b [boss -;code -; state open]",
            "row task +b [boss -; code -; state open]", "row task b [boss +b; code -; state open]", "row task b [boss -; code +b.code; state open]",
            "row task b [boss =b; code -; state open]", "row task b [boss -; code @code; state open]", "row task b {boss -; code -; state open}",
            "row\ntask b [boss -; code -; state open]", "rows task b [boss -; code -; state open]", "Row task b [boss -; code -; state open]",
            "drop", "drop task", "drop a", "drop task a b", "drop other a", "drop task A", "drop task +a", "drop  task a", "drop task  a", "drop task a ",
            "drop task a\n", " drop task a", "drop task -", "drop task ", "drop [task] a", "drop task [a]", "drop a task")


class FindingsTest(DeskCase):
    def test_legal(self):
        desk = plain()
        self.says(desk, ("legal", "some"), (ROW, "-"), ("legal", "legal"), ("row task b [boss nobody; code x; state open]", "-"), ("legal", "whole"),
                  ("row task b [boss a; code x; state open]", "-"), ("legal", "code"))

    def test_run(self):
        desk = Desk(plan(), {})
        self.unchanged(desk, Illegal, "rule", "some", "run")
        self.says(desk, (ROW, "-"), ("row task b [boss a; code -; state open]", "-"), ("run", "caught 0.0.0 whole; failed 1 code"))
        # By the modes of the Book, and with the Tables as they are.
        self.says(desk, ("mode whole late", "-"), ("run", "caught 0.0.1 whole; failed 1 code"), ("mode code late", "-"),
                  ("run", "caught 0.0.1 whole; failed - code"), ("row task a [boss -; code y; state open]", "-"), ("run", "caught 0.0.1 whole; done"),
                  ("tables", "task a [boss -; code y; state open]\ntask b [boss a; code -; state open]\n"))
        self.says(desk, ("remove 0", "-"), ("run", "done"), ("back", "remove 0"), ("run", "caught 0.0.1 whole; done"))

    def test_paths(self):
        """Whatever the Tables are."""
        desk = plain([END])
        self.says(desk, ("paths", "done\nfailed 0 whole\n"), ("row task a [boss b; code -; state done]", "-"), ("paths", "done\nfailed 0 whole\n"))
        self.says(desk, ("mode whole late", "-"), ("paths", "done\nfailed - whole\n"), ("insert 1 take task []", "-"), ("paths", "failed 1 some\n"))
        self.says(desk, ("insert 0 try {take task []} [some] {}", "-"), ("paths", "caught 0.0.0 some; failed 2 some\n"))
        rules = [("k", "check", "t", [("is", "m", ["u"])]), ("s", "some", "t", [("is", "m", ["v"])])]
        self.says(Desk(Script(Schema({"t": {"m": ("mark", ["u", "v"])}}, rules), []), {}), ("paths", ""))

    def test_needed(self):
        desk = plain()
        self.says(desk, ("needed", "code each; some each; whole late"), ("mode some late", "-"), ("needed", "code each; some each; whole late"),
                  ("remove 1", "-"), ("needed", "code each; some each; whole each"), ("insert 1 trial {}", "-"))
        self.bare(desk, NoCommand, "needed")
        self.says(desk, ("back", "insert 1 trial {}"), ("insert 0 switch some late", "-"))
        self.bare(desk, NoCommand, "needed")
        self.says(desk, ("back", "insert 0 switch some late"), ("insert 0 try {} [] {}", "-"))
        self.bare(desk, NoCommand, "needed")
        self.bare(Desk(plan(), {}), NoCommand, "needed")
        self.says(desk, ("remove 0", "-"), ("insert 1 " + show_statement(CUT), "-"), ("needed", "code each; some each; whole late"))

    def test_too_many(self):
        """With the limits that are left out."""
        words = ["a", "b", "c", "d"]
        wide = {"m": ("mark", words), "n": ("mark", words), "t": ("tag",), "x": ("link", "t")}
        two = {"m": ("mark", words), "n": ("mark", words[:3]), "t": ("tag",), "x": ("link", "t")}
        just, more = [Desk(Script(Schema(tables), []), {}) for tables in [{"t": wide, "s": two}, {"t": wide, "s": two, "r": {}}]]
        for line, awaited in [("paths", "done\n"), ("needed", "")]:
            self.says(just, (line, awaited))
            self.unchanged(more, TooMany, "limit", 200, line)
        # A script with a block has no least modes, however many kinds there are.
        self.bare(Desk(Script(Schema({"t": wide, "s": two, "r": {}}), [("trial", [])]), {}), NoCommand, "needed")


class NoCommandTest(DeskCase):
    def test_other_values(self):
        desk = plain()
        desk.execute("mode whole late")
        desk.execute("mode whole each")
        desk.execute("back")
        self.bare(desk, NoCommand, *ODD, deep(30), ["run"], ("run",), {"run": "run"}, b"run", *[[line] for line in QUERIES], desk, plan(), ("remove", (0,)))

    def test_other_lines(self):
        desk = plain()
        desk.execute("mode whole late")
        desk.execute("mode whole each")
        desk.execute("back")
        bent = [sign + line for line in [*QUERIES, "back", "again"] for sign in [" ", "\n", "x", "-", "+"]]
        bent += [line + sign for line in [*QUERIES, "back", "again"] for sign in [" ", "\n", "s", ";", " task", "; run"] if line + sign != "paths"]
        bent += [line.upper() for line in [*QUERIES, "back", "again"]] + [line[:-1] for line in [*QUERIES, "back", "again"]]
        self.bare(desk, NoCommand, *bent, "", "-", "take task []", "mode whole", "mode whole soon", "mode other late", "mode  whole late", "remove", "remove 00",
                  "remove 0 ", "remove 0\n", "remove 1000000000", "insert 0", "insert 0 take other []", "insert take task []", "done", "whole late", "table task",
                  "mode whole late\nmode whole now", "remove 0; remove 0", "insert 0 take task []\n", "execute", "copied", "past 0", "finish")


class DrawnTest(DeskCase):
    """What a Desk answers is what a Book, Tables and the functions tell, as they are written."""

    def lines(self, chance, schema, book, tables):
        """A line that perhaps is none, and what it leads to."""
        script, modes = book.script(), book.modes()
        places = [*script.addresses(), (len(script.body()),), (0, 0, 0), ()]
        deeds = [("remove", chance.choice(places)), ("insert", chance.choice(places), chance.choice(draw_script(chance, schema, 2).body() or [("trial", [])]))]
        deeds += [("mode", name, chance.choice(["each", "now", "late"])) for name in schema.names()]
        deed = chance.choice(deeds)
        table, ident = chance.choice(schema.tables()), chance.choice("abc")
        row = draw_row(chance, schema, table, ["a", "b", "z"])
        one = Tables(schema)
        one[table, ident] = row
        singles = all(script.statement_at(address)[0] in ["put", "change", "take"] for address in script.addresses())

        def put():
            tables[table, ident] = row

        def refuse():
            raise NoCommand()

        every = [(show_deed(deed), lambda: book.do(deed)), ("row " + show_tables(one)[:-1], put), ("row " + show_tables(one)[:-1], put),
                 (f"drop {table} {ident}", lambda: tables.drop(table, ident)), ("back", lambda: show_deed(book.back())),
                 ("again", lambda: show_deed(book.again())), ("script", lambda: show_script(script)), ("log", lambda: show_log(book)),
                 ("modes", lambda: show_modes(modes)), ("tables", lambda: show_tables(tables)), ("legal", lambda: first_broken(tables) or "legal"),
                 ("run", lambda: show_path(run(script, tables, modes)[0])), ("run ", refuse), (show_deed(deed) + " ", refuse)]
        if how_many(schema, script.looks()) <= 40:
            every.append(("paths", lambda: "".join(show_path(path) + "\n" for path in paths(script, modes))))
            every.append(("needed", (lambda: show_modes(needed_modes(script))) if singles else refuse))
        return chance.choice(every)

    def test_drawn(self):
        seen = {}
        for seed in range(120):
            chance = random.Random(seed)
            schema, script, modes = draw_lively(chance)
            desk, book, tables = Desk(script, modes), Book(script, modes), Tables(schema)
            for _ in range(30):
                line, act = self.lines(chance, schema, book, tables)
                try:
                    awaited = act()
                    awaited = "-" if awaited is None else awaited
                except CheckError as error:
                    awaited = (type(error).__name__, vars(error))
                self.assertEqual(answer(desk, line), awaited, line)
                word = awaited[0] if isinstance(awaited, tuple) else line.split(" ")[0]
                seen[word] = seen.get(word, 0) + 1
            self.assertEqual([desk.execute("script"), desk.execute("log"), desk.execute("tables")],
                             [show_script(book.script()), show_log(book), show_tables(tables)])
        for word in ["insert", "remove", "mode", "row", "drop", "back", "again", "paths", "run", "needed", "NoCommand", "NoRow", "NoPlace", "Nothing", "Illegal"]:
            self.assertGreater(seen.get(word, 0), 10, seen)


if __name__ == "__main__":
    unittest.main()
