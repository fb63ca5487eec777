"""Books: scripts and modes that are changed by deeds, which can be taken back and done again."""

from endchecks.copies import copy_of
from endchecks.errors import Full, NoDeed, Nothing, Wrong
from endchecks.modes import all_modes, are_modes
from endchecks.names import is_integer, is_mode
from endchecks.scripts import Script
from endchecks.statements import is_statement

MOST_DEEDS = 60


def is_deed(schema, thing):
    """Whether a value is a deed for scripts of a schema."""
    if not isinstance(thing, tuple) or len(thing) not in (2, 3):
        return False
    if len(thing) == 2:
        return thing[0] == "remove" and _is_address(thing[1])
    if thing[0] == "insert":
        return _is_address(thing[1]) and is_statement(schema, thing[2])
    return thing[0] == "mode" and thing[1] in schema.names() and is_mode(thing[2])


def _is_address(thing):
    return isinstance(thing, tuple) and all([is_integer(number) and number >= 0 for number in thing])


def _state_behind(state, deed):
    """The tuple (Script, modes) behind a deed."""
    script, modes = state
    if deed[0] == "insert":
        return (script.put_in(deed[1], deed[2]), modes)
    if deed[0] == "remove":
        return (script.without(deed[1]), modes)
    return (script, {**modes, deed[1]: deed[2]})


class Book:
    """A Script and modes, with the log of the deeds that changed them."""

    def __init__(self, script, modes):
        if not isinstance(script, Script):
            raise Wrong(0)
        if not are_modes(script.schema, modes):
            raise Wrong(1)
        # Tuples (Script, modes of all rules) ahead of the first deed and behind each one; they are never changed.
        self._states = [(script, all_modes(script.schema, modes))]
        self._log = []
        # Tuples (deed, state behind it) of what was taken back, the last one at the end.
        self._undone = []

    def __eq__(self, other):
        return isinstance(other, Book) and self._states[0] == other._states[0] and self._log == other._log

    def __len__(self):
        return len(self._log)

    def do(self, deed):
        """Does a deed, and puts it behind the log."""
        if not is_deed(self.script().schema, deed):
            raise NoDeed()
        if len(self._log) >= MOST_DEEDS:
            raise Full(MOST_DEEDS)
        state = _state_behind(self._states[-1], deed)
        self._states.append(state)
        self._log.append(copy_of(deed))
        self._undone = []

    def back(self):
        """Takes the last deed of the log back; returns it."""
        if len(self._log) == 0:
            raise Nothing()
        deed = self._log.pop()
        self._undone.append((deed, self._states.pop()))
        return copy_of(deed)

    def again(self):
        """Does the deed again that was taken back last; returns it."""
        if len(self._undone) == 0:
            raise Nothing()
        deed, state = self._undone.pop()
        self._log.append(deed)
        self._states.append(state)
        return copy_of(deed)

    def script(self):
        """The Script."""
        return self._states[-1][0]

    def modes(self):
        """The dict from the names of all rules to their modes."""
        return dict(self._states[-1][1])

    def log(self):
        """The list of the deeds."""
        return copy_of(self._log)

    def past(self, many):
        """The tuple of the Script and the modes behind the first so many deeds of the log."""
        if many > len(self._log):
            raise Nothing()
        script, modes = self._states[many]
        return (script, dict(modes))

    def copied(self):
        """A Book with the same log and the same to do again, that goes on by itself."""
        script, modes = self._states[0]
        copy = Book(script, modes)
        copy._states = list(self._states)
        copy._log = list(self._log)
        copy._undone = list(self._undone)
        return copy
