"""Judges: what the checks of a course find in single rows, by their lives.

As in lives, a row is told by its kind if it is a starting row, by its handle if it is a new one.
"""

from endchecks.conds import meets
from endchecks.lives import Lives
from endchecks.names import is_name
from endchecks.spots import is_met


class Judge:
    """What the checks of one course of a script find."""

    def __init__(self, script, course):
        self._schema = script.schema
        self._lives = Lives(script, course[0])
        self._rules = {rule[0]: rule for rule in script.schema.rules()}
        self._handles = list(script.handles())
        legal = [(0, (), name, "behind", True) for name in script.schema.names()]
        self._checks = [*legal, *course[1]]

    def all_checks(self):
        """The list of the checks: the start is legal, and then the events."""
        return list(self._checks)

    def rule_at(self, check):
        """The rule of a check."""
        return self._rules[check[2]]

    def leads_at(self, check):
        """The table to which the link of a "link" rule leads."""
        rule = self._rules[check[2]]
        return self._schema.leads_to(rule[2], rule[3])

    def passed_checks(self, sort):
        """The list of the checks of rules of a sort that are passed."""
        return [check for check in self._checks if check[4] and self._rules[check[2]][1] == sort]

    def _stages(self, check, who):
        """The stages of a row at a check; none if it is a row of another table than the rule's."""
        if self._lives.home(who) != self._rules[check[2]][2]:
            return []
        return self._any_stages(check, who)

    def _any_stages(self, check, who):
        life = self._lives.life(who)
        if check[3] == "within":
            return [life[check[0] - 1], life[check[0]]]
        return [life[check[0]]]

    def breaks(self, check, who):
        """Whether a row breaks a check of a "check" or "link" rule by itself."""
        rule = self._rules[check[2]]
        if rule[1] == "check":
            return any([row is not None and not meets(row, rule[3]) for row in self._stages(check, who)])
        if rule[1] == "link":
            return any([self._breaks_link(check, rule, who, row) for row in self._stages(check, who)])
        return False

    def _breaks_link(self, check, rule, who, row):
        if not is_met(row, rule[4]):
            return False
        link = self._lives.linked_to(who, row[rule[3]])
        if link[0] == "self":
            return not meets(row, rule[5])
        if link[0] == "at":
            return self.is_missed(check, link[1])
        return link[0] == "gone"

    def is_missed(self, check, who):
        """Whether a row to which a "link" rule leads in some stage is not there or does not meet there."""
        there = self._rules[check[2]][5]
        return any([not is_met(row, there) for row in self._any_stages(check, who)])

    def new_breaks(self, check, handle):
        """Whether a new row breaks a check: by itself, or together with another new row if names must differ."""
        if self._rules[check[2]][1] != "unique":
            return self.breaks(check, handle)
        others = [self._new_names(check, other) for other in self._handles if other != handle]
        names = self._new_names(check, handle)
        return any([name in other for name in names for other in others])

    def first_breaking(self, check):
        """The first new row that breaks a check of a rule that is no "some" rule, or None."""
        for handle in self._handles:
            if self.new_breaks(check, handle):
                return handle
        return None

    def first_meeting(self, check):
        """The first new row that meets a "some" rule at a check, or None."""
        for handle in self._handles:
            if self.meets_some(check, handle):
                return handle
        return None

    def _new_names(self, check, handle):
        """The list of the tag names that a new row has in some stages, where they must differ."""
        rule = self._rules[check[2]]
        values = [row[rule[3]] for row in self._stages(check, handle) if row is not None]
        return [value[1] for value in values if value is not None]

    def words_at(self, check):
        """The ascending list of the names without "+" that new rows have in some stages, where they must differ."""
        names = [name for handle in self._handles for name in self._new_names(check, handle)]
        return sorted({name for name in names if is_name(name)})

    def meets_some(self, check, who):
        """Whether a row is there and meets the tests of a "some" rule in each of its stages."""
        stages = self._stages(check, who)
        return len(stages) > 0 and all([is_met(row, self._rules[check[2]][3]) for row in stages])

    def points(self, check, kind, field):
        """Whether a starting row in some stage must link to a row that meets, and its link is that of field."""
        rule = self._rules[check[2]]
        if rule[1] != "link":
            return False
        stages = [row for row in self._stages(check, kind) if is_met(row, rule[4])]
        return any([row[rule[3]] == ("start", field) for row in stages])

    def is_linked_badly(self, check, kind, field, other):
        """Whether a check of a "link" rule is broken by a row of a kind with a row of another one behind its link."""
        return self.points(check, kind, field) and self.is_missed(check, other)

    def is_linked_well(self, kind, field, other):
        """Whether no passed check is broken so."""
        return not any([self.is_linked_badly(check, kind, field, other) for check in self.passed_checks("link")])

    def is_named(self, check, kind, field):
        """Whether a starting row in some stage has the name of field where a "unique" rule wants other ones."""
        rule = self._rules[check[2]]
        if rule[1] != "unique":
            return False
        stages = [row for row in self._stages(check, kind) if row is not None]
        return any([row[rule[3]] == ("start", field) for row in stages])

    def is_shared_badly(self, check, kind, field, other, its_field):
        """Whether a check of a "unique" rule is broken by two rows that had one name in these fields."""
        return self.is_named(check, kind, field) and self.is_named(check, other, its_field)

    def is_shared_well(self, kind, field, other, its_field):
        """Whether no passed check is broken so."""
        checks = self.passed_checks("unique")
        return not any([self.is_shared_badly(check, kind, field, other, its_field) for check in checks])

    def is_worded_badly(self, check, kind, field, word):
        """Whether a check of a "unique" rule is broken by a row that had a name in a field, and by a new row."""
        return self.is_named(check, kind, field) and word in self.words_at(check)

    def is_worded_well(self, kind, field, word):
        """Whether no passed check is broken so."""
        return not any([self.is_worded_badly(check, kind, field, word) for check in self.passed_checks("unique")])
