"""What a put, change or take does to tables, and to what is in them while it is done."""

from endchecks.errors import Full, Taken
from endchecks.names import new_id, own_name
from endchecks.spots import row_stages, spots_among
from endchecks.statements import changed_row, meets_far, over
from endchecks.tables import MOST_ROWS


def touched(tables, statement):
    """The ascending list of the ids of the rows that a statement puts, changes or takes."""
    return sorted(_rows_behind(tables, statement))


def done(tables, statement):
    """The Tables behind a statement."""
    behind = _rows_behind(tables, statement)
    return _replaced(tables, over(statement), behind)


def part_done(tables, statement, ids):
    """The Tables in which a statement was done only to those of the touched rows whose ids are in a list."""
    behind = _rows_behind(tables, statement)
    return _replaced(tables, over(statement), {ident: behind[ident] for ident in behind if ident in ids})


def _replaced(tables, table, behind):
    """The Tables with other rows of a table in the places of some; None takes one out."""
    after = tables.copied()
    for ident in behind:
        if behind[ident] is None:
            after.drop(table, ident)
        else:
            after[table, ident] = behind[ident]
    return after


def _rows_behind(tables, statement):
    """The dict from the touched ids to the rows behind a statement, or to None for those that it takes."""
    if statement[0] == "put":
        return _put_behind(tables, statement)
    rows = tables.rows(over(statement))
    met = [ident for ident in rows if meets_far(tables, ident, statement[2])]
    if statement[0] == "take":
        return {ident: None for ident in met}
    return {ident: _changed(rows[ident], statement[3]) for ident in met}


def _put_behind(tables, statement):
    handle, row = statement[1], statement[3]
    ident = new_id(handle)
    if tables.table_of(ident) is not None:
        raise Taken(ident)
    if len(tables) >= MOST_ROWS:
        raise Full(MOST_ROWS)
    return {ident: {field: _put_value(handle, field, row[field]) for field in sorted(row)}}


def _put_value(handle, field, value):
    if value == ("own",):
        return own_name(handle, field)
    if isinstance(value, tuple) and value[0] == "word":
        return value[1]
    return _plain_value(value)


def _plain_value(value):
    """What a word, None or ("new", handle) stands for."""
    if isinstance(value, tuple):
        return new_id(value[1])
    return value


def _changed(row, sets):
    changed = changed_row(row, sets)
    return {field: _plain_value(changed[field]) for field in changed}


def stages(tables, statement, ident):
    """The list of what the row with an id is, ahead of a statement and, if it is touched, behind it."""
    behind = _rows_behind(tables, statement)
    table = tables.table_of(ident)
    ahead = None
    if table is not None:
        ahead = tables[table, ident]
    if ident in behind:
        return [ahead, behind[ident]]
    return [ahead]


def spots_within(tables, statement, name):
    """The ascending list of the spots of a rule that there are while a statement is done to one row after another."""
    every = row_stages(tables)
    behind = _rows_behind(tables, statement)
    rows = every[over(statement)]
    for ident in behind:
        rows[ident] = rows.get(ident, [None]) + [behind[ident]]
    return spots_among(tables.schema, tables.schema.rule_of(name), every)


def holds_within(tables, statement, name):
    """Whether the rule of a name has no spot while a statement is done to one row after another."""
    return len(spots_within(tables, statement, name)) == 0
