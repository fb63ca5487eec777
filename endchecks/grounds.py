"""Grounds: which kinds stand together under checks, and where checks that are not passed can break."""

from endchecks.findings import found
from endchecks.judges import Judge
from endchecks.masks import bits, least, mask_of
from endchecks.rosters import Roster


class Ground:
    """The kinds of a roster, some of which fall as checks are laid upon them."""

    def __init__(self, roster):
        self._roster = roster
        self._kept = roster.whole()
        # For each link ("other",) the mask of the kinds with which it is linked well.
        self._wells = roster.behind_ends()
        self._falls = []
        # Tuples (number of the course, check, finding).
        self._laid = []

    def copied(self):
        """An equal one that goes on by itself."""
        copy = Ground(self._roster)
        copy._kept = self._kept
        copy._wells = list(self._wells)
        copy._falls = list(self._falls)
        copy._laid = list(self._laid)
        return copy

    def finding(self, judge, check):
        """What a check finds in the kinds that still stand, and in new rows."""
        return found(self._roster, self._kept, judge, check)

    def kept_kinds(self):
        """The ascending list of the kinds that still stand."""
        return [self._roster.kind_at(at) for at in bits(self._kept)]

    def falls(self):
        """The list of the tuples (kind, reason) of the other kinds, as they fell."""
        return list(self._falls)

    def note(self, number, check, finding):
        """Notes a check and what it finds, though no kind falls."""
        self._laid.append((number, check, finding))
        if check[4]:
            for index in bits(finding.pointing):
                self._wells[index] = self._wells[index] & ~finding.missed

    def lay(self, number, check, finding):
        """Notes a check, and lets kinds fall: those that go against it, and those that need them."""
        self.note(number, check, finding)
        fallen, word = finding.breaking, "breaks"
        if finding.rule_sort == "some":
            fallen, word = finding.meeting, "some"
        if check[4] == (word == "breaks"):
            going = bits(fallen & self._kept)
            for at in going:
                self._fall(at, (word, number, check))
        self._settle()

    def _fall(self, at, reason):
        self._kept = self._kept ^ 1 << at
        self._falls.append((self._roster.kind_at(at), reason))

    def _settle(self):
        """Lets kinds fall that lack what they need, as long as there are any."""
        before = 0
        while before != self._kept:
            before = self._kept
            for at in bits(before):
                reason = self._lacks(at)
                if reason is not None:
                    self._fall(at, reason)

    def _lacks(self, at):
        """The reason for which a kind cannot stand beside those that do, or None."""
        for field, is_kind, index in self._roster.needs(at):
            if is_kind:
                if index is None or not self._kept >> index & 1:
                    return ("at", field)
            elif not self._wells[index] & self._kept:
                return ("other", field)
        return None

    def well_linked(self, kind, field):
        """The list of the kinds with which a link ("other",) of a kind is linked well."""
        needs = self._roster.needs(self._roster.place_of(kind))
        indexes = [index for name, is_kind, index in needs if name == field and not is_kind]
        return [self._roster.kind_at(at) for index in indexes for at in bits(self._wells[index])]

    def partners(self, kind):
        """The list of the partners of a kind, one for each of its links."""
        places = {field: (is_kind, index) for field, is_kind, index in self._roster.needs(self._roster.place_of(kind))}
        return [self._partner(places, field) for field in self._roster.links_of(kind)]

    def _partner(self, places, field):
        if field not in places:
            return None
        is_kind, index = places[field]
        if is_kind:
            return self._roster.kind_at(index)
        return self._roster.kind_at(least(self._wells[index] & self._kept))

    def barred(self):
        """Why no tables fit: a reason as in bars, or None if some do."""
        for number, check, finding in self._laid:
            if finding.handle is not None and check[4] != (finding.rule_sort == "some"):
                return ("new", number, check, finding.handle)
            if check[4]:
                if finding.rule_sort == "some" and self._is_unmet(finding):
                    return ("some", number, check)
            elif finding.rule_sort != "some" and self.spot(finding) is None:
                return ("spot", number, check)
        return None

    def _is_unmet(self, finding):
        """Whether neither a new row nor a kind that stands meets a "some" rule."""
        return finding.handle is None and not finding.meeting & self._kept

    def is_unmet(self, judge, check):
        """Whether neither a new row nor a kind that stands meets a "some" rule at a check."""
        return self._is_unmet(self.finding(judge, check))

    def has_no_spot(self, judge, check):
        """Whether a check of a rule that is no "some" rule cannot break."""
        return self.spot(self.finding(judge, check)) is None

    def meeting_kinds(self):
        """For each passed check of a "some" rule that no new row meets, the list of the kinds that stand and do."""
        told = [finding for _, check, finding in self._laid if check[4] and finding.rule_sort == "some"]
        masks = [finding.meeting & self._kept for finding in told if finding.handle is None]
        return [[self._roster.kind_at(at) for at in bits(mask)] for mask in masks]

    def broken(self):
        """The list of the findings of the checks of other rules that are not passed."""
        return [finding for _, check, finding in self._laid if not check[4] and finding.rule_sort != "some"]

    def spot(self, finding):
        """Where a check of a rule that is no "some" rule can break; None if it cannot."""
        return self._spot(finding, self._kept)

    def spot_near(self, finding, kinds):
        """Such a spot, with some kinds that stand alone if there is one."""
        near = self._spot(finding, mask_of([self._roster.place_of(kind) for kind in kinds]))
        if near is None:
            return self.spot(finding)
        return near

    def _spot(self, finding, among):
        """A spot with kinds of a mask, all of which stand."""
        if finding.handle is not None:
            return ("new", finding.handle)
        breaking = finding.breaking & among
        if breaking:
            return ("row", self._roster.kind_at(least(breaking)))
        if finding.rule_sort == "link":
            return self._linked_spot(finding, among)
        if finding.rule_sort == "unique":
            return self._named_spot(finding, among)
        return None

    def _linked_spot(self, finding, among):
        for index in bits(finding.pointing):
            at, field = self._roster.end_at(index)
            others = finding.missed & self._wells[index] & among
            if others and among >> at & 1:
                return ("linked", self._roster.kind_at(at), field, self._roster.kind_at(least(others)))
        return None

    def _named_spot(self, finding, among):
        """A spot of two rows with one name at the start, or of one with the name of a new row."""
        here = finding.named & mask_of(self._roster.tags_of(among))
        passed = [told for _, check, told in self._laid if check[4] and told.rule_sort == "unique"]
        for index in bits(here):
            at, field = self._roster.tag_at(index)
            beside = [told for told in passed if told.named >> index & 1]
            others = here
            for told in beside:
                others = others & ~told.named
            if others:
                other, its_field = self._roster.tag_at(least(others))
                return ("shared", self._roster.kind_at(at), field, self._roster.kind_at(other), its_field)
            words = [word for word in finding.spoken if not any([word in other_one.spoken for other_one in beside])]
            if len(words) > 0:
                return ("worded", self._roster.kind_at(at), field, words[0])
        return None


def looks_of(several):
    """The looks of all scripts together."""
    return sorted({look for script, course in several for look in script.looks()})


def ground_of(several, kinds, can_fall=True):
    """The Ground of a list of kinds, under all checks of several courses; if none can fall, all are taken to stand."""
    ground = Ground(Roster(several[0][0].schema, sorted(kinds)))
    for number, judge, check in _checks_of(several):
        if can_fall:
            ground.lay(number, check, ground.finding(judge, check))
        else:
            ground.note(number, check, ground.finding(judge, check))
    return ground


def _checks_of(several):
    """The list of the tuples (number of the course, judge, check) of all checks."""
    checks = []
    for number, (script, course) in enumerate(several):
        judge = Judge(script, course)
        # That the start is legal is the same for all courses.
        own = judge.all_checks() if number == 0 else course[1]
        checks.extend([(number, judge, check) for check in own])
    return checks
