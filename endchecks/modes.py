"""Modes of rules, and the checks to which they lead."""

from endchecks.names import is_mode


def are_modes(schema, thing):
    """Whether a value is a dict from names of rules to modes."""
    if not isinstance(thing, dict):
        return False
    names = schema.names()
    return all([name in names and is_mode(thing[name]) for name in thing])


def all_modes(schema, modes):
    """The dict from the names of all rules to their modes; those that modes lack are "now"."""
    return {name: modes.get(name, "now") for name in sorted(schema.names())}


def switched(modes, statement):
    """The modes of all rules behind a statement: only a switch gives some of them another one."""
    if statement[0] != "switch":
        return modes
    return {name: statement[2] if name in statement[1] else modes[name] for name in modes}


def checks_at(schema, modes, statement):
    """The list of the checks (name, way) that a statement leads to, by the modes of all rules ahead of it."""
    if statement[0] == "switch":
        if statement[2] == "late":
            return []
        return [(name, "behind") for name in schema.names() if name in statement[1]]
    return [(name, _way(modes[name])) for name in schema.names() if modes[name] != "late"]


def _way(mode):
    if mode == "each":
        return "within"
    return "behind"


def checks_at_end(schema, modes):
    """The list of the checks (name, way) behind the last statement, by the modes of all rules."""
    return [(name, "behind") for name in schema.names() if modes[name] == "late"]


def in_order(schema, told):
    """The ascending list of tuples (address, rule ..); for one address the rules are in the order of the schema."""
    names = schema.names()
    places = sorted([(item[0], names.index(item[1]), *item[2:]) for item in told])
    return [(place[0], names[place[1]], *place[2:]) for place in places]
