"""Fields of tables, and plain tests of their rows."""

from endchecks.names import are_names, is_name

SORTS = ("mark", "link", "tag")
MOST_OF_A_SORT = 2
MOST_WORDS = 4
# A "not" stands within at most three others: so at most four stand one in another.
MOST_NOTS = 4


def fields_of(thing):
    """Whether a value is a dict of fields of a table of some schema."""
    if not isinstance(thing, dict):
        return False
    if not all([is_name(name) and _is_field(thing[name]) for name in thing]):
        return False
    sorts = [thing[name][0] for name in thing]
    return all([sorts.count(sort) <= MOST_OF_A_SORT for sort in SORTS])


def _is_field(thing):
    if not isinstance(thing, tuple):
        return False
    if len(thing) == 1:
        return thing[0] == "tag"
    if len(thing) != 2:
        return False
    if thing[0] == "mark":
        return are_names(thing[1]) and 1 <= len(thing[1]) <= MOST_WORDS
    return thing[0] == "link" and is_name(thing[1])


def sort_of(fields, name):
    """The sort of the field of a name, any value: "mark", "link", "tag", or None if there is none."""
    if is_name(name) and name in fields:
        return fields[name][0]
    return None


def has_fields(fields, thing):
    """Whether a value is a dict with a value for just each of the fields."""
    if not isinstance(thing, dict) or len(thing) != len(fields):
        return False
    return all([name in thing for name in fields])


def inside_nots(test):
    """What stands within all nots of a test, any value; None if there are too many of them."""
    inner = test
    for _ in range(MOST_NOTS):
        if _is_not(inner):
            inner = inner[1]
    if _is_not(inner):
        return None
    return inner


def _is_not(thing):
    return isinstance(thing, tuple) and len(thing) == 2 and thing[0] == "not"


def is_tests(fields, thing):
    """Whether a value is plain tests for a table with these fields."""
    if not isinstance(thing, list):
        return False
    return all([_is_inner_test(fields, inside_nots(test)) for test in thing])


def _is_inner_test(fields, thing):
    if not isinstance(thing, tuple):
        return False
    if len(thing) == 2:
        return thing[0] == "none" and sort_of(fields, thing[1]) in ("link", "tag")
    if len(thing) != 3 or thing[0] != "is" or sort_of(fields, thing[1]) != "mark":
        return False
    if not isinstance(thing[2], list) or len(thing[2]) == 0:
        return False
    words = fields[thing[1]][1]
    return all([word in words for word in thing[2]])


def meets(row, tests):
    """Whether a row meets plain tests."""
    return all([_meets_one(row, test) for test in tests])


def _meets_one(row, test):
    if test[0] == "not":
        return not _meets_one(row, test[1])
    if test[0] == "none":
        return row[test[1]] is None
    return row[test[1]] in test[2]


def fields_in(tests):
    """The ascending list of the different fields that plain tests name."""
    return sorted({inside_nots(test)[1] for test in tests})
