"""Fits: which rows break which checks of a course, by their kinds and the ways that they go."""

from endchecks.judges import Judge


def breaks(script, course, check, kind):
    """Whether a starting row of a kind breaks a check of a "check" or "link" rule by itself."""
    return Judge(script, course).breaks(check, kind)


def breaks_first(script, course, kind):
    """The first of the passed checks that a starting row of a kind breaks by itself, or None."""
    judge = Judge(script, course)
    for check in judge.all_checks():
        if check[4] and judge.breaks(check, kind):
            return check
    return None


def new_breaks(script, course, check, handle):
    """Whether the new row of a handle breaks a check: by itself, or beside another new row with the same name."""
    return Judge(script, course).new_breaks(check, handle)


def meets_some(script, course, check, kind):
    """Whether a starting row of a kind is there and meets the tests of a "some" rule in each of its stages."""
    return Judge(script, course).meets_some(check, kind)


def new_meets(script, course, check, handle):
    """Whether the new row of a handle is there and meets the tests of a "some" rule in each of its stages."""
    return Judge(script, course).meets_some(check, handle)


def is_linked_well(script, course, kind, field, other):
    """Whether no passed check is broken by a row of a kind whose link was, at the start, to a row of another kind."""
    return Judge(script, course).is_linked_well(kind, field, other)


def is_linked_badly(script, course, check, kind, field, other):
    """Whether one check is broken by a row of a kind whose link was, at the start, to a row of another kind."""
    return Judge(script, course).is_linked_badly(check, kind, field, other)


def is_shared_well(script, course, kind, field, other, its_field):
    """Whether no passed check is broken by two rows whose tag names in these fields were the same at the start."""
    return Judge(script, course).is_shared_well(kind, field, other, its_field)


def is_shared_badly(script, course, check, kind, field, other, its_field):
    """Whether one check is broken by two rows whose tag names in these fields were the same at the start."""
    return Judge(script, course).is_shared_badly(check, kind, field, other, its_field)


def is_worded_well(script, course, kind, field, word):
    """Whether no passed check is broken by a row whose tag name was a name that new rows have, too."""
    return Judge(script, course).is_worded_well(kind, field, word)


def is_worded_badly(script, course, check, kind, field, word):
    """Whether one check is broken by a row whose tag name was a name that new rows have, too."""
    return Judge(script, course).is_worded_badly(check, kind, field, word)
