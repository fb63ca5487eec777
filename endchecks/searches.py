"""Searches: all paths that runs of a script go from legal starting tables."""

from endchecks.errors import TooMany
from endchecks.grounds import ground_of
from endchecks.judges import Judge
from endchecks.ways import CourseWalk


class Search:
    """A search for paths, check by check: each one passes or not, as far as there are tables for it.

    The checks of the script are laid upon grounds as those of the course with some number.
    """

    def __init__(self, script, modes, number):
        self._script = script
        self._modes = modes
        self._number = number
        self._most = None
        self._found = []

    def ends(self, ground, most=None):
        """The list of the tuples (path, ground behind it) of all paths; most is None if there may be any number.

        Of two paths the one comes first that passes the first check at which they part.
        """
        self._most = most
        self._found = []
        if ground.barred() is None:
            self._go_on([], ground.copied(), 0)
        return list(self._found)

    def _go_on(self, failing, ground, many):
        """Finds all paths that begin with so many checks, laid upon a ground, and on which some failures came."""
        walk = CourseWalk(self._script, self._modes, failing)
        events = walk.course_gone()[1]
        judge = Judge(self._script, walk.course_gone())
        later = []
        can_end = True
        for at in range(many, len(events)):
            check = events[at]
            finding = ground.finding(judge, check)
            broken = with_failure(ground, self._number, check, finding)
            if broken is not None:
                later.append(([*failing, check[1:3]], broken, at + 1))
            ground.lay(self._number, check, finding)
            if ground.barred() is not None:
                can_end = False
                break
        if can_end:
            self._add(walk.path_gone(), ground)
        for failures, broken, checks in reversed(list(later)):
            self._go_on(failures, broken, checks)

    def _add(self, path, ground):
        if self._most is not None and len(self._found) >= self._most:
            raise TooMany(self._most)
        self._found.append((path, ground))


def start_ground(script, kinds):
    """The Ground of a list of kinds on which no check lies but that the start is legal."""
    return ground_of([(script, ([], []))], kinds)


def with_failure(ground, number, check, finding):
    """The Ground on which a check of a course breaks, or None if it cannot."""
    # Most checks have no spot: they need no Ground of their own.
    if finding.rule_sort != "some" and ground.spot(finding) is None:
        return None
    broken = ground.copied()
    broken.lay(number, (*check[:4], False), finding)
    if broken.barred() is not None:
        return None
    return broken
