"""Spots: what breaks the rules of a schema in tables."""

from endchecks.conds import meets
from endchecks.tables import Tables


def spots(tables, name):
    """The ascending list of the spots of the rule of a name in tables."""
    return spots_among(tables.schema, tables.schema.rule_of(name), row_stages(tables))


def row_stages(tables):
    """The dict from tables to dicts from ids to lists of stages: here of one, the row as it is."""
    stages = {}
    for table in tables.schema.tables():
        rows = tables.rows(table)
        stages[table] = {ident: [rows[ident]] for ident in rows}
    return stages


def spots_among(schema, rule, stages):
    """The ascending list of the spots of a rule, whichever stage each row is at by itself.

    stages is like that of row_stages; a stage is a row, or None where it is not there.
    """
    rows = stages[rule[2]]
    if rule[1] == "check":
        return [(ident,) for ident in sorted(rows) if any([_misses(row, rule[3]) for row in rows[ident]])]
    if rule[1] == "link":
        return _link_spots(schema, rule, stages)
    if rule[1] == "unique":
        return _unique_spots(rows, rule[3])
    if any([all([is_met(row, rule[3]) for row in rows[ident]]) for ident in rows]):
        return []
    return [()]


def is_met(stage, tests):
    """Whether a row, or None where it is not there, is there and meets tests."""
    return stage is not None and meets(stage, tests)


def _misses(stage, tests):
    return stage is not None and not meets(stage, tests)


def _link_spots(schema, rule, stages):
    table, field, tests, there = rule[2:]
    leads = schema.leads_to(table, field)
    found = []
    for ident in stages[table]:
        for row in stages[table][ident]:
            if is_met(row, tests) and row[field] is not None:
                others = stages[leads].get(row[field], [None])
                # A row that links to itself is at one stage only.
                if row[field] == ident and leads == table:
                    others = [row]
                if not all([is_met(other, there) for other in others]):
                    found.append((ident, row[field]))
    return sorted(set(found))


def _unique_spots(rows, field):
    holders = {}
    for ident in rows:
        there = [row for row in rows[ident] if row is not None]
        for name in sorted({row[field] for row in there if row[field] is not None}):
            holders.setdefault(name, []).append(ident)
    groups = [holders[name] for name in holders]
    return sorted({(one, other) for group in groups for one in group for other in group if one < other})


def holds(tables, name):
    """Whether the rule of a name has no spot in tables."""
    return len(spots(tables, name)) == 0


def first_broken(tables):
    """The name of the first of the rules that does not hold, or None."""
    for name in tables.schema.names():
        if not holds(tables, name):
            return name
    return None


def is_legal(tables):
    """Whether all rules hold in tables."""
    return first_broken(tables) is None


def spot_rows(spot):
    """The ascending list of the different ids of a spot."""
    return sorted(set(spot))


def apart(tables):
    """The list of the parts of tables that have nothing to do with one another, by their least ids."""
    beside = _neighbours(tables)
    parts = []
    placed = {}
    for ident in tables.ids():
        if ident not in placed:
            group = _reached(beside, ident)
            for other in group:
                placed[other] = True
            parts.append(_only(tables, group))
    return parts


def _neighbours(tables):
    """The dict from each id to a list of ids; what leads from one to another one leads back, too."""
    beside = {ident: [] for ident in tables.ids()}
    for one, other in _linked_pairs(tables) + _sharing_pairs(tables):
        beside[one].append(other)
        beside[other].append(one)
    return beside


def _linked_pairs(tables):
    pairs = []
    for table in tables.schema.tables():
        for ident in tables.rows(table):
            targets = [tables.target(table, ident, field) for field in tables.schema.links(table)]
            pairs.extend([(ident, other) for other in targets if other is not None])
    return pairs


def _sharing_pairs(tables):
    """Each row that has a tag name, with one that stands for all rows that have it, in whatever field."""
    first = {}
    pairs = []
    for table in tables.schema.tables():
        rows = tables.rows(table)
        for ident in rows:
            for name in [rows[ident][field] for field in tables.schema.tags(table)]:
                if name is not None:
                    pairs.append((ident, first.setdefault(name, ident)))
    return pairs


def _reached(beside, ident):
    reached = {ident: True}
    waiting = [ident]
    while len(waiting) > 0:
        here = waiting.pop()
        for other in beside[here]:
            if other not in reached:
                reached[other] = True
                waiting.append(other)
    return list(reached)


def _only(tables, group):
    """The Tables with the rows of a group of ids alone."""
    part = Tables(tables.schema)
    for ident in group:
        table = tables.table_of(ident)
        part[table, ident] = tables[table, ident]
    return part
