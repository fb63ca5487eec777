"""Supports: the kinds of rows that stand together under the checks of several courses, and why the others fall."""

from endchecks.grounds import ground_of, looks_of
from endchecks.judges import Judge
from endchecks.names import is_integer
from endchecks.rowkinds import how_many, is_kind, row_kinds


def supports(several, *, most=200):
    """The greatest list of kinds that stand together, and how the others fall one by one."""
    ground = ground_of(several, row_kinds(several[0][0].schema, looks_of(several), most=most))
    return ground.kept_kinds(), ground.falls()


def _are_kinds(several, thing):
    """Whether a value is a list of different kinds."""
    if not isinstance(thing, list):
        return False
    looks = looks_of(several)
    if not all([is_kind(several[0][0].schema, looks, kind) for kind in thing]):
        return False
    return len({kind for kind in thing}) == len(thing)


def do_stand(several, thing):
    """Whether a value is a list of different kinds that stand together."""
    return _are_kinds(several, thing) and len(ground_of(several, thing).falls()) == 0


def are_falls(several, thing):
    """Whether a value is a list of tuples (kind, reason), no kind twice, each reason right."""
    if not isinstance(thing, list):
        return False
    if not all([isinstance(item, tuple) and len(item) == 2 and isinstance(item[1], tuple) for item in thing]):
        return False
    if not _are_kinds(several, [item[0] for item in thing]):
        return False
    fallen = {}
    reasons = Reasons(several)
    for kind, reason in thing:
        if not reasons.is_right(fallen, kind, reason):
            return False
        fallen[kind] = True
    return True


def all_kinds(several):
    """The ascending list of all kinds, however many."""
    schema, looks = several[0][0].schema, looks_of(several)
    return row_kinds(schema, looks, most=how_many(schema, looks))


class Reasons:
    """What shows whether the reasons that are told of courses are right."""

    def __init__(self, several):
        self._several = several
        self._schema = several[0][0].schema
        self._judges = [Judge(script, course) for script, course in several]
        # It is made where a reason needs it.
        self._ground = None

    def judge_of(self, number):
        """The judge of the course of a number."""
        return self._judges[number]

    def is_check(self, number, check):
        """Whether two values are the number of a course and a check of it."""
        if not is_integer(number) or not 0 <= number < len(self._judges):
            return False
        if check not in self._judges[number].all_checks():
            return False
        # True and False are equal to 1 and 0.
        return all([is_integer(part) for part in (check[0], *check[1])]) and isinstance(check[4], bool)

    def is_right(self, fallen, kind, reason):
        """Whether a tuple is a right reason for a kind to fall behind those of a dict."""
        if len(reason) == 3:
            return self._is_against(kind, reason)
        if len(reason) != 2 or reason[1] not in self._schema.links(kind[0]):
            return False
        link = kind[2][self._schema.links(kind[0]).index(reason[1])]
        if link[0] == "at":
            return reason[0] == "at" and link[1] in fallen
        return link[0] == "other" and reason[0] == "other" and self._is_left(fallen, kind, reason[1])

    def _is_against(self, kind, reason):
        """Whether a kind goes against a check by itself."""
        word, number, check = reason
        if not self.is_check(number, check):
            return False
        judge = self._judges[number]
        if word == "breaks":
            return check[4] and judge.breaks(check, kind)
        return word == "some" and judge.rule_at(check)[1] == "some" and not check[4] and judge.meets_some(check, kind)

    def _is_left(self, fallen, kind, field):
        """Whether each kind with which a link is linked well fell."""
        if self._ground is None:
            self._ground = ground_of(self._several, all_kinds(self._several), False)
        return all([other in fallen for other in self._ground.well_linked(kind, field)])
