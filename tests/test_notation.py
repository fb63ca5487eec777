"""Point 101: what is written."""

import unittest

from endchecks.books import Book
from endchecks.notation import (
    show_address, show_deed, show_log, show_modes, show_path, show_schema, show_script, show_statement, show_tables, show_tests)
from endchecks.schemas import Schema
from endchecks.scripts import Script
from endchecks.tables import Tables
from tests.samples import not_nested, shop, task, tasks, tree

OPEN = ("is", "state", ["open"])


class TestsTest(unittest.TestCase):
    def test_of_the_document(self):
        tests = [("is", "state", ["open", "done"]), ("none", "boss"), ("not", ("none", "boss")), ("new", "boss", "top"), ("row", "top"),
                 ("at", "boss", [OPEN])]
        self.assertEqual(show_tests(tests), "[is state open done; none boss; not none boss; new boss top; row top; at boss [is state open]]")

    def test_others(self):
        wanted = [([], "[]"), ([OPEN], "[is state open]"), ([("is", "state", ["open", "done", "open"])], "[is state open done open]"),
                  ([("is", "state", ["done", "open"])], "[is state done open]"), ([("at", "boss", [])], "[at boss []]"),
                  ([("not", ("at", "boss", [OPEN, ("not", ("none", "code"))]))], "[not at boss [is state open; not none code]]"),
                  ([("none", "a"), ("none", "a")], "[none a; none a]"), ([("not", ("row", "not"))], "[not row not]")]
        for tests, text in wanted:
            self.assertEqual(show_tests(tests), text)

    def test_nots_of_nots(self):
        for many in range(5):
            self.assertEqual(show_tests([not_nested(("none", "boss"), many)]), "[" + "not " * many + "none boss]")
        self.assertEqual(show_tests([("not", ("not", ("new", "boss", "top")))]), "[not not new boss top]")


class StatementsTest(unittest.TestCase):
    def check(self, statement, text):
        self.assertEqual(show_statement(statement), text)

    def test_puts(self):
        self.check(("put", "top", "task", {"state": "open", "code": ("word", "w"), "boss": ("new", "h")}), "put top task [boss +h; code =w; state open]")
        self.check(("put", "top", "task", {"boss": None, "code": ("own",), "state": "done"}), "put top task [boss -; code own; state done]")
        self.check(("put", "top", "task", {"boss": None, "code": None, "state": "own"}), "put top task [boss -; code -; state own]")
        self.check(("put", "put", "put", {}), "put put put []")

    def test_changes(self):
        self.check(("change", "task", [], {"state": "open", "boss": ("field", "f")}), "change task [] [boss @f; state open]")
        self.check(("change", "task", [("row", "h")], {"boss": ("new", "h")}), "change task [row h] [boss +h]")
        self.check(("change", "task", [OPEN, ("none", "boss")], {"code": None, "boss": None}), "change task [is state open; none boss] [boss -; code -]")
        self.check(("change", "task", [], {"code": ("field", "code")}), "change task [] [code @code]")

    def test_takes_and_switches(self):
        self.check(("take", "task", []), "take task []")
        self.check(("take", "task", [("at", "boss", [OPEN])]), "take task [at boss [is state open]]")
        self.check(("switch", ["whole", "code"], "late"), "switch whole code late")
        self.check(("switch", ["code", "whole"], "each"), "switch code whole each")
        self.check(("switch", ["late"], "now"), "switch late now")

    def test_blocks(self):
        take, switch = ("take", "task", []), ("switch", ["whole"], "now")
        self.check(("trial", []), "trial {}")
        self.check(("trial", [take]), "trial {take task []}")
        self.check(("trial", [take, switch]), "trial {take task []; switch whole now}")
        self.check(("try", [], [], []), "try {} [] {}")
        self.check(("try", [take, switch], ["whole", "code"], [take]), "try {take task []; switch whole now} [whole code] {take task []}")
        self.check(("try", [take], ["code", "whole"], []), "try {take task []} [code whole] {}")
        self.check(("try", [("trial", [("try", [], ["a"], [take])])], [], [("trial", []), take]),
                   "try {trial {try {} [a] {take task []}}} [] {trial {}; take task []}")


class ScriptsTest(unittest.TestCase):
    def test_a_line_for_each(self):
        take = ("take", "task", [("not", ("none", "boss"))])
        self.assertEqual(show_script(Script(tree(), [])), "")
        self.assertEqual(show_script(Script(tree(), [take])), "take task [not none boss]\n")
        self.assertEqual(show_script(Script(tree(), [take, ("trial", [take, take]), ("switch", ["some"], "late")])),
                         "take task [not none boss]\ntrial {take task [not none boss]; take task [not none boss]}\nswitch some late\n")

    def test_addresses(self):
        for address, text in [((), "-"), ((0,), "0"), ((0, 1, 2), "0.1.2"), ((10, 0), "10.0"), ((999999999,), "999999999"), ((0, 0, 0, 0), "0.0.0.0")]:
            self.assertEqual(show_address(address), text)


class SchemasTest(unittest.TestCase):
    def test_of_the_document(self):
        fields = {"state": ("mark", ["open", "done"]), "boss": ("link", "task"), "code": ("tag",)}
        rules = [("whole", "link", "task", "boss", [("none", "code")], [OPEN]), ("ok", "check", "task", [("not", OPEN)]),
                 ("code", "unique", "task", "code"), ("any", "some", "task", [])]
        awaited = ["table task", "link boss task", "tag code", "mark state done open", "rule whole link task boss [none code] [is state open]",
                   "rule ok check task [not is state open]", "rule code unique task code", "rule any some task []"]
        self.assertEqual(show_schema(Schema({"task": fields}, rules)), "\n".join(awaited) + "\n")

    def test_tables_and_fields_ascend(self):
        awaited = ["table item", "mark kind big small", "link maker maker", "tag name", "tag nick", "table maker", "link best item", "tag name",
                   "link other maker", "table plain", "rule z some plain []", "rule a unique item nick"]
        text = show_schema(shop([("z", "some", "plain", []), ("a", "unique", "item", "nick")]))
        self.assertEqual(text, "\n".join(awaited) + "\n")
        self.assertEqual(show_schema(Schema({"t": {}})), "table t\n")


class TablesTest(unittest.TestCase):
    def test_by_table_and_id(self):
        self.assertEqual(show_tables(Tables(tree())), "")
        tables = tasks({"b": ("open", "b", "x"), "a": ("done", None, None), "+top": ("open", "+top", "+top.code")})
        awaited = ["task +top [boss +top; code +top.code; state open]", "task a [boss -; code -; state done]", "task b [boss b; code x; state open]"]
        self.assertEqual(show_tables(tables), "\n".join(awaited) + "\n")
        tables = Tables(shop())
        tables["plain", "a"] = {}
        tables["item", "c"] = {"kind": "big", "maker": "b", "name": None, "nick": "own"}
        tables["maker", "b"] = {"best": None, "other": "nobody", "name": "n"}
        self.assertEqual(show_tables(tables), "item c [kind big; maker b; name -; nick own]\nmaker b [best -; name n; other nobody]\nplain a []\n")


class PathsTest(unittest.TestCase):
    def test_paths(self):
        wanted = [(((), None), "done"), (((), ((1,), "code")), "failed 1 code"), (((), ((), "some")), "failed - some"),
                  (((((0, 0, 0), "whole"),), None), "caught 0.0.0 whole; done"),
                  (((((0, 0, 0), "whole"), ((10, 1, 2), "some")), ((11,), "code")), "caught 0.0.0 whole; caught 10.1.2 some; failed 11 code")]
        for path, text in wanted:
            self.assertEqual(show_path(path), text)


class ModesTest(unittest.TestCase):
    def test_modes(self):
        wanted = [({}, ""), ({"whole": "late"}, "whole late"), ({"whole": "late", "code": "each", "some": "now"}, "code each; some now; whole late"),
                  ({"some": "now", "code": "each"}, "code each; some now")]
        for modes, text in wanted:
            self.assertEqual(show_modes(modes), text)


class DeedsTest(unittest.TestCase):
    def test_deeds(self):
        wanted = [(("insert", (0, 1, 1), ("take", "task", [])), "insert 0.1.1 take task []"), (("remove", (0,)), "remove 0"),
                  (("mode", "whole", "late"), "mode whole late"), (("remove", ()), "remove -"),
                  (("insert", (), ("trial", [("trial", [])])), "insert - trial {trial {}}")]
        for deed, text in wanted:
            self.assertEqual(show_deed(deed), text)

    def test_logs(self):
        book = Book(Script(tree(), []), {})
        self.assertEqual(show_log(book), "")
        for deed in [("insert", (0,), ("trial", [])), ("insert", (0, 0, 0), ("take", "task", [])), ("mode", "whole", "late"), ("remove", (0,))]:
            book.do(deed)
        awaited = "insert 0 trial {}\ninsert 0.0.0 take task []\nmode whole late\nremove 0\n"
        self.assertEqual(show_log(book), awaited)
        book.back()
        self.assertEqual(show_log(book) + "remove 0\n", awaited)


class ArgumentsTest(unittest.TestCase):
    def test_nothing_is_changed(self):
        row = task("open", ("new", "h"), ("own",))
        statement = ("try", [("put", "h", "task", row)], ["whole"], [("change", "task", [OPEN], {"state": "done", "boss": None})])
        before = repr(statement)
        show_statement(statement)
        self.assertEqual(repr(statement), before)


if __name__ == "__main__":
    unittest.main()
