"""Lates: which rules must be late for a script not to fail ahead of its end."""

from endchecks.modes import in_order
from endchecks.paths import paths, tables_on


def _amid(script, modes, most):
    """The list of the paths that end with a failure ahead of the end."""
    return [path for path in paths(script, modes, most=most) if path[1] is not None and len(path[1][0]) > 0]


def fails_amid(script, modes, *, most=200):
    """The least failure with which runs end ahead of the end, and tables for it; None if there is none."""
    ending = _amid(script, modes, most)
    if len(ending) == 0:
        return None
    least = in_order(script.schema, [path[1] for path in ending])[0]
    first = [path for path in ending if path[1] == least][0]
    return least, tables_on(script, modes, first, most=most)


def put_off(modes, names):
    """The modes in which the rules of a list are late, and the others as they are."""
    every = sorted(set(list(modes) + list(names)))
    return {name: "late" if name in names else modes[name] for name in every}


def least_lates(script, modes, *, most=200):
    """The list of the lists of rules that must at least be put off for no run to end ahead of the end."""
    found = []
    for names in _choices(script.schema.names()):
        # What has more than a list that does is not the least.
        if not any([all([name in names for name in less]) for less in found]):
            if len(_amid(script, put_off(modes, names), most)) == 0:
                found.append(names)
    return found


def _choices(names):
    """The list of all ascending lists of some of some names, by their length, then ascending."""
    lists = [[]]
    for name in sorted(names):
        lists = lists + [[*some, name] for some in lists]
    return [chosen for _, chosen in sorted([(len(some), some) for some in lists])]
