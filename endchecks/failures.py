"""Failures: which ones runs of a script have, caught or not."""

from endchecks.modes import in_order
from endchecks.paths import paths, tables_on


def failures(script, modes, *, most=200):
    """The list of the tuples (address, rule, is_caught) of all failures on paths that runs go."""
    every = paths(script, modes, most=most)
    caught = [(*failure, True) for path in every for failure in path[0]]
    ending = [(*path[1], False) for path in every if path[1] is not None]
    return in_order(script.schema, sorted(set(caught + ending)))


def never_fails(script, modes, *, most=200):
    """Whether all paths that runs go end behind the last check."""
    return all([path[1] is None for path in paths(script, modes, most=most)])


def always_fails(script, modes, *, most=200):
    """Whether no path that runs go ends behind the last check."""
    return all([path[1] is not None for path in paths(script, modes, most=most)])


def failing(script, modes, failure, *, most=200):
    """Legal tables from which a run has a failure (address, rule), caught or not, or None."""
    for path in paths(script, modes, most=most):
        if failure in path[0] or failure == path[1]:
            return tables_on(script, modes, path, most=most)
    return None
