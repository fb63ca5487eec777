"""Idle: checks, tries, statements and names that do nothing on any path that runs of a script go."""

from endchecks.modes import in_order
from endchecks.paths import paths
from endchecks.ways import walk_along


def _walks(script, modes, most):
    """The list of the walks on which the paths that runs go are gone."""
    return [walk_along(script, modes, path) for path in paths(script, modes, most=most)]


def idle_checks(script, modes, *, most=200):
    """The list of the tuples (address, rule) of the checks that come on some paths and never break."""
    events = [event for walk in _walks(script, modes, most) for event in walk.course_gone()[1]]
    breaking = {event[1:3]: True for event in events if not event[4]}
    return in_order(script.schema, sorted({event[1:3] for event in events if event[1:3] not in breaking}))


def _catches(script, modes, most):
    """The list of the tuples (address of a try, failure that it catches) on all paths."""
    return [catch for walk in _walks(script, modes, most) for catch in walk.catches()]


def unentered(script, modes, *, most=200):
    """The ascending list of the addresses of the tries that never catch."""
    entered = {address: True for address, failure in _catches(script, modes, most)}
    return [address for address in script.tries() if address not in entered]


def unreached(script, modes, *, most=200):
    """The ascending list of the addresses of the statements that no run comes to."""
    reached = {address: True for walk in _walks(script, modes, most) for address in walk.addresses_met()}
    return [address for address in script.addresses() if address not in reached]


def idle_names(script, modes, *, most=200):
    """The list of the tuples (address, rule) of the rules in the lists of tries that are never caught there."""
    used = {(address, failure[1]): True for address, failure in _catches(script, modes, most)}
    told = [(address, name) for address in script.tries() for name in script.statement_at(address)[2]]
    return in_order(script.schema, [pair for pair in told if pair not in used])
