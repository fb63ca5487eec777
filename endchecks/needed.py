"""Needed: how early each rule of a script without blocks and switches can be checked."""

from endchecks.grounds import ground_of
from endchecks.judges import Judge
from endchecks.paths import built_on
from endchecks.rowkinds import row_kinds
from endchecks.searches import with_failure
from endchecks.ways import open_course

# The words for what is in the way, in their order.
WAYS = ("within", "behind")


class Delay:
    """Where rules of a script would fail on the way to legal tables."""

    def __init__(self, script, most):
        kinds = row_kinds(script.schema, script.looks(), most=most)
        ends = [(len(script), (), name, "behind", True) for name in script.schema.names()]
        course = open_course(script, ends)
        self._several = [(script, course)]
        self._judge = Judge(script, course)
        self._ground = ground_of(self._several, kinds)

    def ground_at(self, address, name, way):
        """The Ground of tables from which a rule is in the way at a statement, or None if it is not."""
        check = (address[0] + 1, address, name, way, False)
        return with_failure(self._ground, 0, check, self._ground.finding(self._judge, check))

    def tables_at(self, address, name, way):
        """Tables from which a rule is in the way at a statement, or None."""
        ground = self.ground_at(address, name, way)
        if ground is None:
            return None
        return built_on(self._several, ground, [])


def breaks(script, *, most=200):
    """The list of the tuples (address, name, way) of the rules that are in the way."""
    delay = Delay(script, most)
    every = [(address, name, way) for address in script.addresses() for name in script.schema.names() for way in WAYS]
    return [place for place in every if delay.ground_at(*place) is not None]


def tables_in(script, address, name, way, *, most=200):
    """Legal tables from which a script can be done, and from which a rule is in the way at a statement, or None."""
    delay = Delay(script, most)
    if address not in script:
        return None
    return delay.tables_at(address, name, way)


def needed_modes(script, *, most=200):
    """The dict from all rules to their least modes."""
    told = {place[1:]: True for place in breaks(script, most=most)}
    return {name: _least_mode(told, name) for name in sorted(script.schema.names())}


def _least_mode(told, name):
    if (name, "behind") in told:
        return "late"
    if (name, "within") in told:
        return "now"
    return "each"
