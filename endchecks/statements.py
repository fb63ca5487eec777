"""Statements of scripts, and the tests of their changes and takes."""

from endchecks.conds import has_fields, inside_nots, is_tests, meets, sort_of
from endchecks.copies import copy_of
from endchecks.names import are_names, is_mode, is_name, new_id


def are_far_tests(schema, table, thing):
    """Whether a value is tests of a change or take over a table."""
    if not isinstance(thing, list):
        return False
    return all([_is_far_test(schema, table, inside_nots(test)) for test in thing])


def _is_far_test(schema, table, thing):
    """Whether a value is a test that is no "not"."""
    fields = schema.fields(table)
    if not isinstance(thing, tuple):
        return False
    if len(thing) == 2 and thing[0] == "row":
        return is_name(thing[1])
    if len(thing) == 3 and thing[0] == "new":
        return sort_of(fields, thing[1]) == "link" and is_name(thing[2])
    if len(thing) == 3 and thing[0] == "at":
        return sort_of(fields, thing[1]) == "link" and is_tests(schema.fields(fields[thing[1]][1]), thing[2])
    return is_tests(fields, [thing])


def is_statement(schema, thing):
    """Whether a value is a statement, with statements alone in its bodies."""
    if not is_item(schema, thing):
        return False
    return all([is_statement(schema, item) for body in own_bodies(thing) for item in body])


def is_item(schema, thing):
    """Whether a value is a statement, whatever stands in its bodies."""
    if not isinstance(thing, tuple) or len(thing) not in (2, 3, 4):
        return False
    if len(thing) == 2:
        return thing[0] == "trial" and isinstance(thing[1], list)
    if thing[0] == "switch":
        return len(thing) == 3 and _is_switch(schema, thing)
    if thing[0] == "take":
        return len(thing) == 3 and thing[1] in schema.tables() and are_far_tests(schema, thing[1], thing[2])
    if len(thing) != 4:
        return False
    if thing[0] == "put":
        return is_name(thing[1]) and thing[2] in schema.tables() and _is_put_row(schema.fields(thing[2]), thing[3])
    if thing[0] == "change":
        return _is_change(schema, thing)
    return thing[0] == "try" and _is_try(schema, thing)


def _is_switch(schema, thing):
    if not are_names(thing[1]) or len(thing[1]) == 0:
        return False
    return all([name in schema.names() for name in thing[1]]) and is_mode(thing[2])


def _is_try(schema, thing):
    if not isinstance(thing[1], list) or not are_names(thing[2]) or not isinstance(thing[3], list):
        return False
    catchable = [rule[0] for rule in schema.rules() if rule[1] != "unique"]
    return all([name in catchable for name in thing[2]])


def _is_change(schema, thing):
    table, tests, sets = thing[1:]
    if table not in schema.tables() or not are_far_tests(schema, table, tests):
        return False
    if not isinstance(sets, dict) or len(sets) == 0:
        return False
    fields = schema.fields(table)
    return all([is_name(name) and name in fields and _is_set_value(fields, name, sets[name]) for name in sets])


def _is_put_row(fields, thing):
    return has_fields(fields, thing) and all([_is_put_value(fields[name], thing[name]) for name in fields])


def _is_put_value(field, thing):
    if field[0] == "mark":
        return thing in field[1]
    if thing is None:
        return True
    if field[0] == "link":
        return _is_pair(thing, "new")
    return _is_pair(thing, "word") or thing == ("own",)


def _is_set_value(fields, name, thing):
    field = fields[name]
    if field[0] == "mark":
        return thing in field[1]
    if thing is None or (field[0] == "link" and _is_pair(thing, "new")):
        return True
    # Equal links lead to the same table; all tags are equal.
    return _is_pair(thing, "field") and thing[1] in fields and fields[thing[1]] == field


def _is_pair(thing, word):
    """Whether a value is a tuple of a word and some name."""
    return isinstance(thing, tuple) and len(thing) == 2 and thing[0] == word and is_name(thing[1])


def meets_far(tables, ident, tests):
    """Whether the row with an id meets tests of its table."""
    return all([_meets_one(tables, ident, test) for test in tests])


def _meets_one(tables, ident, test):
    if test[0] == "not":
        return not _meets_one(tables, ident, test[1])
    if test[0] == "row":
        return ident == new_id(test[1])
    table = tables.table_of(ident)
    row = tables[table, ident]
    if test[0] == "new":
        return row[test[1]] == new_id(test[2])
    if test[0] == "at":
        other = tables.target(table, ident, test[1])
        return other is not None and meets(tables[tables.table_of(other), other], test[2])
    return meets(row, [test])


def own_bodies(statement):
    """The list of the bodies of a statement, the very lists."""
    if statement[0] == "trial":
        return [statement[1]]
    if statement[0] == "try":
        return [statement[1], statement[3]]
    return []


def bodies(statement):
    """The list of the bodies of a statement."""
    return copy_of(own_bodies(statement))


def with_body(statement, number, body):
    """The statement with a list in the place of its body of a number."""
    at = 1 + 2 * number
    return statement[:at] + (body,) + statement[at + 1:]


def over(statement):
    """The table of a put, change or take."""
    if statement[0] == "put":
        return statement[2]
    return statement[1]


def changed_row(row, sets):
    """The row with what sets put in the place of its values; all that it copies is taken from it as it was."""
    changed = dict(row)
    for field in sets:
        value = sets[field]
        if _is_pair(value, "field"):
            changed[field] = row[value[1]]
        else:
            changed[field] = value
    return changed


def _inner_tests(statement):
    """The list of the tests of a change or take, each without the nots around it; none for other statements."""
    if statement[0] in ("change", "take"):
        return [inside_nots(test) for test in statement[2]]
    return []


def new_links(statement):
    """The list of the tuples (link, handle) in the row, the sets and the tests of a statement, bodies aside."""
    found = [(test[1], test[2]) for test in _inner_tests(statement) if test[0] == "new"]
    if statement[0] in ("put", "change"):
        values = statement[3]
        found.extend([(name, values[name][1]) for name in values if _is_pair(values[name], "new")])
    return found


def new_rows(statement):
    """The list of the handles in the tests of a statement that ask for a new row itself, bodies aside."""
    return [test[1] for test in _inner_tests(statement) if test[0] == "row"]


def handles_in(statement):
    """The ascending list of the different handles that a statement puts or names, in its bodies too."""
    found = [link[1] for link in new_links(statement)] + new_rows(statement)
    if statement[0] == "put":
        found.append(statement[1])
    for body in own_bodies(statement):
        for inner in body:
            found.extend(handles_in(inner))
    return sorted(set(found))


def looked_at(schema, statement):
    """The ascending list of the different tables to which the links of "at" tests lead, bodies aside."""
    return sorted({schema.leads_to(statement[1], test[1]) for test in _inner_tests(statement) if test[0] == "at"})
