"""Stores: tables that statements are done to while rules are checked."""

from endchecks.copies import copy_of
from endchecks.doing import done, holds_within, touched
from endchecks.errors import BadStatement, Broken, Illegal, Wrong
from endchecks.modes import all_modes, are_modes, checks_at, checks_at_end, switched
from endchecks.schemas import Schema
from endchecks.spots import first_broken, holds
from endchecks.statements import is_item
from endchecks.tables import Tables


def _is_single(schema, thing):
    """Whether a value is a statement without bodies."""
    return is_item(schema, thing) and thing[0] not in ("trial", "try")


class Store:
    """Tables and modes that statements change, with the log of these statements."""

    def __init__(self, schema, tables, modes):
        if not isinstance(schema, Schema):
            raise Wrong(0)
        if not isinstance(tables, Tables) or tables.schema != schema:
            raise Wrong(1)
        if not are_modes(schema, modes):
            raise Wrong(2)
        broken = first_broken(tables)
        if broken is not None:
            raise Illegal(broken)
        self._schema = schema
        # What these four have is never changed, only replaced: so trials, guards and copies may have it in common.
        self._tables = tables.copied()
        self._modes = all_modes(schema, modes)
        self._log = []
        self._pending = {name: [] for name in schema.names()}

    def __eq__(self, other):
        if not isinstance(other, Store):
            return False
        if self._tables != other._tables or self._modes != other._modes:
            return False
        return self._log == other._log and self._pending == other._pending

    def __len__(self):
        return len(self._log)

    @property
    def schema(self):
        """The Schema."""
        return self._schema

    def do(self, statement):
        """Does a put, change, take or switch, and checks rules; returns the list of the touched ids."""
        if not _is_single(self._schema, statement):
            raise BadStatement(())
        if statement[0] == "switch":
            ids, after = [], self._tables
        else:
            ids, after = touched(self._tables, statement), done(self._tables, statement)
        awaited = self.checks(statement)
        for name, way in awaited:
            if not self._passes(name, way, statement, after):
                raise Broken(name)
        self._tables = after
        self._modes = switched(self._modes, statement)
        self._log = [*self._log, copy_of(statement)]
        self._settle([name for name, way in awaited], ids)
        return ids

    def _passes(self, name, way, statement, after):
        if way == "within":
            return holds_within(self._tables, statement, name)
        return holds(after, name)

    def _settle(self, held, ids):
        """Notes that ids were touched, and that some rules were checked behind it and held."""
        pending = {}
        for name in self._pending:
            if name in held:
                pending[name] = []
            else:
                pending[name] = sorted(set(self._pending[name] + ids))
        self._pending = pending

    def finish(self):
        """Checks the rules whose mode is "late"."""
        late = [name for name, way in self.end_checks()]
        for name in late:
            if not holds(self._tables, name):
                raise Broken(name)
        self._settle(late, [])

    def tables(self):
        """The Tables as they are."""
        return self._tables.copied()

    def modes(self):
        """The dict from the names of all rules to their modes."""
        return dict(self._modes)

    def log(self):
        """The list of the statements that were done."""
        return copy_of(self._log)

    def pending(self, name):
        """The ascending list of the ids that were touched since the rule of a name was checked last and held."""
        return list(self._pending[name])

    def broken(self):
        """The list of the names of the rules that do not hold, in the order of the rules."""
        return [name for name in self._schema.names() if not holds(self._tables, name)]

    def checks(self, statement):
        """The list of the checks (name, way) that a statement would lead to if all hold."""
        return checks_at(self._schema, self._modes, statement)

    def end_checks(self):
        """The list of the checks (name, way) of finish."""
        return checks_at_end(self._schema, self._modes)

    def trial(self, act):
        """Calls act with the Store, and leads back to what it was, however act ends."""
        tables, modes, log, pending = self._tables, self._modes, self._log, self._pending
        try:
            return act(self)
        finally:
            self._tables, self._modes, self._log, self._pending = tables, modes, log, pending

    def guard(self, act):
        """Calls act with the Store, and leads back to what it was if act ends with an error."""
        tables, modes, log, pending = self._tables, self._modes, self._log, self._pending
        ended = None
        try:
            answer = act(self)
            ended = True
            return answer
        finally:
            if ended is None:
                self._tables, self._modes, self._log, self._pending = tables, modes, log, pending

    def copied(self):
        """An equal Store that goes on by itself."""
        # A Store begins with legal tables, and this one may have others by now: so the copy begins with none.
        bare = self._schema
        for name in bare.names():
            bare = bare.without(name)
        copy = Store(bare, Tables(bare), {})
        copy._schema = self._schema
        copy._tables, copy._modes = self._tables, self._modes
        copy._log, copy._pending = self._log, self._pending
        return copy
