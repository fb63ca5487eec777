"""Lives: what becomes of starting rows of a kind, and of new rows, along the steps of a course.

Here a row at a moment is None where it is not there, otherwise a dict from its fields to what it has: a word for a
mark; None, ("start", field) or ("new", handle) for a link; None, ("start", field) or ("name", name) for a tag.
These dicts are never changed.
"""

from endchecks.conds import meets
from endchecks.names import own_name
from endchecks.rowkinds import start_row
from endchecks.statements import over


def _put_row(statement):
    handle, row = statement[1], statement[3]
    return {field: _put_value(handle, field, row[field]) for field in row}


def _put_value(handle, field, value):
    if value == ("own",):
        return ("name", own_name(handle, field))
    if isinstance(value, tuple) and value[0] == "word":
        return ("name", value[1])
    return value


def _changed(row, sets):
    changed = dict(row)
    for field in sets:
        value = sets[field]
        if isinstance(value, tuple) and value[0] == "field":
            changed[field] = row[value[1]]
        else:
            changed[field] = value
    return changed


class Lives:
    """The lives of all rows along the steps of a course of a script; a life is a list, with a row at each moment."""

    def __init__(self, script, steps):
        self._schema = script.schema
        self._homes = script.handles()
        self._steps = [(address, word, script.statement_at(address)) for address, word in steps]
        self._starting = {}
        self._fresh = {}

    def starting(self, kind):
        """The life of a starting row of a kind."""
        if kind not in self._starting:
            self._starting[kind] = self._life(kind, None, start_row(self._schema, kind))
        return self._starting[kind]

    def fresh(self, handle):
        """The life of the new row of a handle."""
        if handle not in self._fresh:
            self._fresh[handle] = self._life(None, handle, None)
        return self._fresh[handle]

    def _life(self, kind, handle, row):
        """The life of a row of a kind, or of the new row of a handle; one of these is None."""
        table = kind[0] if handle is None else self._homes[handle][0]
        life = [row]
        kept = {}
        for address, word, statement in self._steps:
            if word == "keep":
                kept[address] = row
            elif word == "undo":
                row = kept[address]
            elif over(statement) == table:
                row = self._row_behind(statement, kind, handle, row, len(life) - 1)
            life.append(row)
        return life

    def _row_behind(self, statement, kind, handle, row, moment):
        """The row behind a put, change or take over its table, which is row ahead of it, at a moment."""
        if statement[0] == "put":
            return _put_row(statement) if statement[1] == handle else row
        if row is None or not all([self._meets(kind, handle, row, moment, test) for test in statement[2]]):
            return row
        if statement[0] == "take":
            return None
        return _changed(row, statement[3])

    def _meets(self, kind, handle, row, moment, test):
        if test[0] == "not":
            return not self._meets(kind, handle, row, moment, test[1])
        if test[0] == "row":
            return test[1] == handle
        if test[0] == "new":
            return row[test[1]] == ("new", test[2])
        if test[0] == "at":
            other = self._seen(kind, row[test[1]], moment)
            return other is not None and meets(other, test[2])
        return meets(row, [test])

    def _seen(self, kind, link, moment):
        """The row at a moment to which a link leads that is looked along; None for nobody."""
        if link is None:
            return None
        if link[0] == "new":
            return self.fresh(link[1])[moment]
        inner = kind[2][self._schema.links(kind[0]).index(link[1])]
        if inner[0] == "at":
            return self.starting(inner[1])[moment]
        return None
