"""Ways: the courses to which paths lead, and what becomes of rows on them."""

from endchecks.copies import copy_of
from endchecks.lives import Lives
from endchecks.modes import all_modes, checks_at, checks_at_end, switched
from endchecks.names import is_integer
from endchecks.walks import Walk


class CourseWalk(Walk):
    """A way through a script on which just some failures come."""

    def __init__(self, script, modes, failing):
        Walk.__init__(self, script)
        self._failing = failing
        self._modes = all_modes(script.schema, modes)
        self._steps = []
        self._events = []
        self._path = self.walked()

    def _keep(self, address):
        self._steps.append((address, "keep"))
        return self._modes

    def _undo(self, address, kept):
        self._steps.append((address, "undo"))
        self._modes = kept

    def _step(self, address, statement):
        awaited = checks_at(self._script.schema, self._modes, statement)
        self._modes = switched(self._modes, statement)
        if statement[0] != "switch":
            self._steps.append((address, "do"))
        return self._judged(address, awaited)

    def _end(self):
        return self._judged((), checks_at_end(self._script.schema, self._modes))

    def _judged(self, address, awaited):
        """Makes checks up to the first one that does not pass; returns the failure or None."""
        for name, way_of in awaited:
            passed = (address, name) not in self._failing
            self._events.append((len(self._steps), address, name, way_of, passed))
            if not passed:
                return (address, name)
        return None

    def path_gone(self):
        """The path."""
        return self._path

    def course_gone(self):
        """The course."""
        return (self._steps, self._events)


def _failures_of(path):
    """The list of the failures that a path tells, in order."""
    if path[1] is None:
        return list(path[0])
    return [*path[0], path[1]]


def is_path(script, modes, thing):
    """Whether a value is a path by its form."""
    if not isinstance(thing, tuple) or len(thing) != 2 or not isinstance(thing[0], tuple):
        return False
    failing = _failures_of(thing)
    if not all([_is_failure(script, failure) for failure in failing]):
        return False
    return CourseWalk(script, modes, failing).path_gone() == thing


def _is_failure(script, thing):
    """Whether a value is a tuple of an address, perhaps that of the end, and the name of a rule."""
    if not isinstance(thing, tuple) or len(thing) != 2 or not isinstance(thing[0], tuple):
        return False
    return all([is_integer(number) for number in thing[0]]) and thing[1] in script.schema.names()


def walk_along(script, modes, path):
    """The walk on which a path is gone."""
    return CourseWalk(script, modes, _failures_of(path))


def course(script, modes, path):
    """The course of a path."""
    return walk_along(script, modes, path).course_gone()


def open_course(script, events):
    """The course of a plain script with all its puts, changes and takes, and with a list of events."""
    single = [address for address in script.addresses() if script.statement_at(address)[0] != "switch"]
    return ([(address, "do") for address in single], copy_of(events))


def way(script, steps, kind):
    """The list of the states of a starting row of a kind, at all moments."""
    return [_state(script.schema, kind[0], row) for row in Lives(script, steps).life(kind)]


def new_way(script, steps, handle):
    """The list of the states of the new row of a handle, at all moments."""
    table = script.handles()[handle][0]
    return [_state(script.schema, table, row) for row in Lives(script, steps).life(handle)]


def _state(schema, table, row):
    """What is told of a row at a moment."""
    if row is None:
        return None
    fields = (schema.marks(table), schema.links(table), schema.tags(table))
    return tuple([tuple([row[field] for field in part]) for part in fields])
