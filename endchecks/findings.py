"""Findings: what a check finds in the rows of many kinds, and in new rows."""

from endchecks.masks import bits, mask_of


class Finding:
    """What a check of a rule of some sort finds; kinds, links and tags are told by a roster's masks."""

    def __init__(self, rule_sort):
        self.rule_sort = rule_sort
        # The kinds that break it by themselves, that meet a "some" rule, that are missed behind links.
        self.breaking = 0
        self.meeting = 0
        self.missed = 0
        # The links and the tags by which a kind breaks it together with another row.
        self.pointing = 0
        self.named = 0
        # The names that new rows have there, and the first new row that breaks it or meets a "some" rule.
        self.spoken = []
        self.handle = None


def found(roster, kept, judge, check):
    """The Finding of a check in the kinds of a mask, and in all new rows."""
    rule = judge.rule_at(check)
    finding = Finding(rule[1])
    here = kept & roster.home(rule[2])
    if rule[1] == "some":
        finding.meeting = mask_of([at for at in bits(here) if judge.meets_some(check, roster.kind_at(at))])
        finding.handle = judge.first_meeting(check)
        return finding
    finding.handle = judge.first_breaking(check)
    if rule[1] == "unique":
        finding.named = mask_of([index for index in roster.tags_of(here) if _is_named(roster, judge, check, index)])
        finding.spoken = judge.words_at(check)
        return finding
    finding.breaking = mask_of([at for at in bits(here) if judge.breaks(check, roster.kind_at(at))])
    if rule[1] == "link":
        finding.pointing = mask_of([index for index in roster.ends_of(here) if _points(roster, judge, check, index)])
        there = kept & roster.home(judge.leads_at(check)) if finding.pointing > 0 else 0
        finding.missed = mask_of([at for at in bits(there) if judge.is_missed(check, roster.kind_at(at))])
    return finding


def _is_named(roster, judge, check, index):
    at, field = roster.tag_at(index)
    return judge.is_named(check, roster.kind_at(at), field)


def _points(roster, judge, check, index):
    at, field = roster.end_at(index)
    return judge.points(check, roster.kind_at(at), field)
