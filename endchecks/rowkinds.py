"""Kinds: what scripts can see of starting rows."""

from endchecks.conds import meets
from endchecks.errors import NoRow, TooMany


def row_kinds(schema, looks, *, most=200):
    """The ascending list of all kinds, of all tables."""
    if how_many(schema, looks) > most:
        raise TooMany(most)
    return sorted([kind for table in schema.tables() for kind in _kinds_of(schema, looks, table)])


def _kinds_of(schema, looks, table):
    """The list of the kinds of a table."""
    marks = _choices([schema.words(table, mark) for mark in schema.marks(table)])
    links = _choices([_link_choices(schema, looks, table, link) for link in schema.links(table)])
    tags = _choices([[False, True] for _ in schema.tags(table)])
    return [(table, words, ways, truths) for words in marks for ways in links for truths in tags]


def _choices(lists):
    """The list of all tuples with an item of each of some lists."""
    found = [()]
    for items in lists:
        found = [(*ahead, item) for ahead in found for item in items]
    return found


def _link_choices(schema, looks, table, link):
    leads = schema.leads_to(table, link)
    if (table, leads) in looks:
        return _plain_links(schema, table, link) + [("at", kind) for kind in _kinds_of(schema, looks, leads)]
    return _plain_links(schema, table, link) + [("other",)]


def _plain_links(schema, table, link):
    """What a link may be that does not lead to another row."""
    if schema.leads_to(table, link) == table:
        return [("none",), ("self",), ("gone",)]
    return [("none",), ("gone",)]


def how_many(schema, looks):
    """The number of all kinds, however great."""
    return sum([_how_many_of(schema, looks, table) for table in schema.tables()])


def _how_many_of(schema, looks, table):
    many = schema.rows_of(table)
    for link in schema.links(table):
        many = many * _how_many_links(schema, looks, table, link)
    for _ in schema.tags(table):
        many = many * 2
    return many


def _how_many_links(schema, looks, table, link):
    plain = len(_plain_links(schema, table, link))
    leads = schema.leads_to(table, link)
    if (table, leads) in looks:
        return plain + _how_many_of(schema, looks, leads)
    return plain + 1


def is_kind(schema, looks, thing):
    """Whether a value is a kind."""
    if not isinstance(thing, tuple) or len(thing) != 4:
        return False
    table, marks, links, tags = thing
    if table not in schema.tables():
        return False
    names = schema.marks(table), schema.links(table), schema.tags(table)
    for part, fields in zip((marks, links, tags), names):
        if not isinstance(part, tuple) or len(part) != len(fields):
            return False
    if not all([word in schema.words(table, mark) for word, mark in zip(marks, names[0])]):
        return False
    if not all([_is_link(schema, looks, table, link, inner) for link, inner in zip(names[1], links)]):
        return False
    return all([isinstance(truth, bool) for truth in tags])


def _is_link(schema, looks, table, link, thing):
    if thing in _plain_links(schema, table, link):
        return True
    leads = schema.leads_to(table, link)
    if (table, leads) not in looks:
        return thing == ("other",)
    if not isinstance(thing, tuple) or len(thing) != 2 or thing[0] != "at":
        return False
    return is_kind(schema, looks, thing[1]) and thing[1][0] == leads


def kind_of(tables, looks, ident):
    """The kind of the row with an id."""
    table = tables.table_of(ident)
    if table is None:
        raise NoRow(ident)
    row = tables[table, ident]
    schema = tables.schema
    marks = tuple([row[mark] for mark in schema.marks(table)])
    links = tuple([_link_of(tables, looks, ident, link) for link in schema.links(table)])
    return (table, marks, links, tuple([row[tag] is not None for tag in schema.tags(table)]))


def _link_of(tables, looks, ident, link):
    table = tables.table_of(ident)
    other = tables.target(table, ident, link)
    if other == ident:
        return ("self",)
    if other is None:
        if tables[table, ident][link] is None:
            return ("none",)
        return ("gone",)
    if (table, tables.table_of(other)) in looks:
        return ("at", kind_of(tables, looks, other))
    return ("other",)


def start_row(schema, kind):
    """The dict from fields to what a row of a kind has at the start: a word, None or ("start", field)."""
    table, marks, links, tags = kind
    row = {}
    for mark, word in zip(schema.marks(table), marks):
        row[mark] = word
    for link, inner in zip(schema.links(table), links):
        row[link] = None if inner == ("none",) else ("start", link)
    for tag, truth in zip(schema.tags(table), tags):
        row[tag] = ("start", tag) if truth else None
    return row


def kind_meets(schema, kind, tests):
    """Whether rows of a kind meet plain tests of their table."""
    return meets(start_row(schema, kind), tests)
