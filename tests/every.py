"""All legal tables with a few ids, for tests that hold from all legal starting tables."""

import itertools

from endchecks.spots import is_legal
from endchecks.tables import Tables

# One of them is a word of drawn puts, the other one is not.
NAMES = ["x", "q"]


def rows_of(schema, table, idents):
    """All rows of a table with links to some ids, or to nobody."""
    choices = []
    fields = schema.fields(table)
    for field in fields.values():
        if field[0] == "mark":
            choices.append(field[1])
        else:
            choices.append([None, *idents, "nobody"] if field[0] == "link" else [None, *NAMES])
    return [dict(zip(fields, values)) for values in itertools.product(*choices)]


def all_legal(schema, idents, chance=None, most=400):
    """All legal Tables with some of these ids; if there are more than most, so many are drawn by chance."""
    rows = [None] + [(table, row) for table in schema.tables() for row in rows_of(schema, table, idents)]
    combinations = itertools.product(rows, repeat=len(idents))
    if len(rows) ** len(idents) > most:
        combinations = [[chance.choice(rows) for _ in idents] for _ in range(most)]
    found = []
    for combination in combinations:
        tables = Tables(schema)
        for ident, row in zip(idents, combination):
            if row is not None:
                tables[row[0], ident] = row[1]
        if is_legal(tables):
            found.append(tables)
    return found
