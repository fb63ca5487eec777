"""Desk: a Book and Tables that are told what to do by lines."""

from endchecks.books import Book
from endchecks.errors import NoCommand, NoText
from endchecks.names import is_name
from endchecks.needed import needed_modes
from endchecks.notation import show_deed, show_log, show_modes, show_path, show_script, show_tables
from endchecks.paths import paths
from endchecks.readers import read_deed, read_tables
from endchecks.runs import run
from endchecks.spots import first_broken
from endchecks.tables import Tables

# What is answered where there is nothing to tell.
DONE = "-"


class Desk:
    """A Book, and Tables of its schema, without rows at first."""

    def __init__(self, script, modes):
        self._book = Book(script, modes)
        self._tables = Tables(script.schema)

    def execute(self, line):
        """Does what a line tells; returns the answer."""
        deed = self._deed_of(line)
        if deed is not None:
            self._book.do(deed)
            return DONE
        if not isinstance(line, str):
            raise NoCommand()
        first = line.split(" ")[0]
        if first == "row":
            return self._put(line)
        if first == "drop":
            return self._drop(line.split(" "))
        if line in ("back", "again", "script", "log", "modes", "tables"):
            return self._told(line)
        return self._found_out(line)

    def _deed_of(self, line):
        """The deed that a value tells, or None if it tells none."""
        try:
            return read_deed(self._tables.schema, line)
        except NoText:
            return None

    def _put(self, line):
        """Puts the row of a line."""
        one = self._row_of(line)
        if one is None or len(one) != 1:
            raise NoCommand()
        ident = one.ids()[0]
        table = one.table_of(ident)
        self._tables[table, ident] = one[table, ident]
        return DONE

    def _row_of(self, line):
        """The Tables with the row of a line, or None if it tells none, or one with "+"."""
        if "+" in line:
            return None
        try:
            return read_tables(self._tables.schema, line[len("row "):] + "\n")
        except NoText:
            return None

    def _drop(self, words):
        """Drops the row that words tell."""
        if len(words) != 3 or words[1] not in self._tables.schema.tables() or not is_name(words[2]):
            raise NoCommand()
        self._tables.drop(words[1], words[2])
        return DONE

    def _told(self, word):
        """What the Book and the Tables tell."""
        if word == "back":
            return show_deed(self._book.back())
        if word == "again":
            return show_deed(self._book.again())
        if word == "script":
            return show_script(self._book.script())
        if word == "log":
            return show_log(self._book)
        if word == "modes":
            return show_modes(self._book.modes())
        return show_tables(self._tables)

    def _found_out(self, word):
        """What is found out about the Script and the Tables."""
        script, modes = self._book.script(), self._book.modes()
        if word == "legal":
            broken = first_broken(self._tables)
            return "legal" if broken is None else broken
        if word == "run":
            return show_path(run(script, self._tables, modes)[0])
        if word == "paths":
            return "".join([show_path(path) + "\n" for path in paths(script, modes)])
        if word == "needed" and _has_only_singles(script):
            return show_modes(needed_modes(script))
        raise NoCommand()


def _has_only_singles(script):
    """Whether a script has no block and no switch."""
    return script.is_plain() and all([statement[0] != "switch" for statement in script.body()])
