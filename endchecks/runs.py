"""Runs: scripts that are done to tables."""

from endchecks.doing import done
from endchecks.errors import Broken
from endchecks.stores import Store
from endchecks.walks import Walk


class RunWalk(Walk):
    """A way through a script that tables and modes lead to."""

    def __init__(self, script, tables, modes):
        Walk.__init__(self, script)
        self._begin = Store(script.schema, tables, modes)
        self._store = self._begin.copied()
        self._events = []
        self._behind = []
        self._words = {}
        self._path = self.walked()

    def _keep(self, address):
        return self._store.copied()

    def _undo(self, address, kept):
        self._store = kept

    def _step(self, address, statement):
        awaited = self._store.checks(statement)
        failure = None
        try:
            self._store.do(statement)
        except Broken as e:
            failure = (address, e.rule)
        self._note(address, awaited, failure)
        if failure is None:
            self._words[address] = "done"
            self._behind.append((address, self._store.tables()))
        else:
            self._words[address] = "failed"
        return failure

    def _end(self):
        awaited = self._store.end_checks()
        failure = None
        try:
            self._store.finish()
        except Broken as e:
            failure = ((), e.rule)
        self._note((), awaited, failure)
        return failure

    def _note(self, address, awaited, failure):
        """Notes the checks that were made: all that were awaited, or those up to the failure."""
        for name, way in awaited:
            passed = failure != (address, name)
            self._events.append((address, name, way, passed))
            if not passed:
                break

    def last_store(self):
        """The Store in the end, or the one at the beginning if a failure ended the run."""
        if self._path[1] is None:
            return self._store
        return self._begin

    def path_gone(self):
        """The path."""
        return self._path

    def events_met(self):
        """The list of all checks in order."""
        return self._events

    def tables_behind(self):
        """The list of the tuples (address, Tables) behind the statements that did not fail."""
        return self._behind

    def word_at(self, address):
        """What became of the statement at an address."""
        return self._words.get(address, "unmet")


def run(script, tables, modes):
    """The path of a run, and the Tables in the end."""
    gone = RunWalk(script, tables, modes)
    return gone.path_gone(), gone.last_store().tables()


def events(script, tables, modes):
    """The list of all checks of a run, in order, as tuples (address, name, way, passed)."""
    return RunWalk(script, tables, modes).events_met()


def moments(script, tables, modes):
    """The tuples (address, Tables) behind each put, change, take and switch of a run that did not fail."""
    # The whole run comes first: its errors are raised at the beginning.
    behind = RunWalk(script, tables, modes).tables_behind()
    for address, there in behind:
        yield address, there


def unchecked(script, tables):
    """The tuples (address, Tables) behind each put, change and take of a plain script if nothing is checked."""
    now = Store(script.schema, tables, {}).tables()
    behind = []
    for address in script.addresses():
        statement = script.statement_at(address)
        if statement[0] != "switch":
            now = done(now, statement)
            behind.append((address, now))
    for address, there in behind:
        yield address, there


def final_modes(script, tables, modes):
    """The dict of all modes at the end of a run, or those at its beginning if a failure ended it."""
    return RunWalk(script, tables, modes).last_store().modes()


def where(script, tables, modes):
    """The dict from the addresses of all puts, changes, takes and switches to what became of them in a run."""
    gone = RunWalk(script, tables, modes)
    single = [address for address in script.addresses() if script.statement_at(address)[0] not in ("trial", "try")]
    return {address: gone.word_at(address) for address in single}
