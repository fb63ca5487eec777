"""Lives: what becomes of starting rows of a kind, and of new rows, along the steps of a course.

Here a row at a moment is None where it is not there, otherwise a dict from its fields to what it has: a word for a
mark; None, ("start", field) or ("new", handle) for a link; None, ("start", field) or ("name", name) for a tag.
These dicts are never changed.
"""

from endchecks.conds import meets
from endchecks.names import own_name
from endchecks.rowkinds import start_row
from endchecks.spots import is_met
from endchecks.statements import changed_row, over


def _put_row(statement):
    handle, row = statement[1], statement[3]
    return {field: _put_value(handle, field, row[field]) for field in row}


def _put_value(handle, field, value):
    if value == ("own",):
        return ("name", own_name(handle, field))
    if isinstance(value, tuple) and value[0] == "word":
        return ("name", value[1])
    return value


class Lives:
    """The lives of all rows along the steps of a course of a script; a life is a list, with a row at each moment.

    A row is told by its kind if it is a starting row, by its handle if it is a new one.
    """

    def __init__(self, script, steps):
        self._schema = script.schema
        self._homes = script.handles()
        self._steps = [(address, word, script.statement_at(address)) for address, word in steps]
        self._known = {}

    def home(self, who):
        """The table of a row."""
        if isinstance(who, str):
            return self._homes[who][0]
        return who[0]

    def life(self, who):
        """The life of a row."""
        if who not in self._known:
            self._known[who] = self._lived(who)
        return self._known[who]

    def _lived(self, who):
        table = self.home(who)
        row = None if isinstance(who, str) else start_row(self._schema, who)
        life = [row]
        kept = {}
        for address, word, statement in self._steps:
            if word == "keep":
                kept[address] = row
            elif word == "undo":
                row = kept[address]
            elif over(statement) == table:
                row = self._row_behind(statement, who, row, len(life) - 1)
            life.append(row)
        return life

    def _row_behind(self, statement, who, row, moment):
        """The row behind a put, change or take over its table that is done at a moment, from the one ahead of it."""
        if statement[0] == "put":
            return _put_row(statement) if statement[1] == who else row
        if row is None or not all([self._meets(who, row, moment, test) for test in statement[2]]):
            return row
        if statement[0] == "take":
            return None
        return changed_row(row, statement[3])

    def _meets(self, who, row, moment, test):
        if test[0] == "not":
            return not self._meets(who, row, moment, test[1])
        if test[0] == "row":
            return test[1] == who
        if test[0] == "new":
            return row[test[1]] == ("new", test[2])
        if test[0] == "at":
            link = self.linked_to(who, row[test[1]])
            return link[0] == "at" and is_met(self.life(link[1])[moment], test[2])
        return meets(row, [test])

    def linked_to(self, who, link):
        """What a link of a row leads to: like the links of kinds, but also ("at", handle) for a new row."""
        if link is None:
            return ("none",)
        if link == ("new", who):
            return ("self",)
        if link[0] == "new":
            return ("at", link[1])
        return who[2][self._schema.links(who[0]).index(link[1])]
