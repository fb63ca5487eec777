"""Tables: rows with ids, each of one table of a schema."""

from endchecks.errors import BadRow, Full, NoRow, Taken, Wrong
from endchecks.names import is_id
from endchecks.schemas import Schema

MOST_ROWS = 200


class Tables:
    """The rows of the tables of a schema, without any at first."""

    def __init__(self, schema):
        if not isinstance(schema, Schema):
            raise Wrong(0)
        self._schema = schema
        # From ids to tuples (table, row). The rows in it are never changed or told, only replaced and copied:
        # so copies of Tables may have them in common.
        self._rows = {}

    def __eq__(self, other):
        return isinstance(other, Tables) and self._schema == other._schema and self._rows == other._rows

    def __len__(self):
        return len(self._rows)

    def __iter__(self):
        raise TypeError("Tables are not iterated over: ask for ids() or rows(table)")

    def __contains__(self, x):
        return isinstance(x, tuple) and len(x) == 2 and self._has(x[0], x[1])

    def __getitem__(self, at):
        table, ident = at
        if not self._has(table, ident):
            raise NoRow(ident)
        return dict(self._rows[ident][1])

    def __setitem__(self, at, worth):
        table, ident = at
        if table not in self._schema.tables() or not is_id(ident):
            raise Wrong(0)
        if not self._schema.is_row(table, worth):
            raise BadRow(ident)
        if ident in self._rows and self._rows[ident][0] != table:
            raise Taken(ident)
        if ident not in self._rows and len(self._rows) >= MOST_ROWS:
            raise Full(MOST_ROWS)
        self._rows[ident] = (table, {name: worth[name] for name in sorted(worth)})

    def _has(self, table, ident):
        return is_id(ident) and ident in self._rows and self._rows[ident][0] == table

    @property
    def schema(self):
        """The Schema."""
        return self._schema

    def drop(self, table, ident):
        """Takes the row with an id out of a table."""
        if not self._has(table, ident):
            raise NoRow(ident)
        del self._rows[ident]

    def rows(self, table):
        """The dict from ids to the rows of a table."""
        return {ident: dict(self._rows[ident][1]) for ident in self.ids() if self._rows[ident][0] == table}

    def ids(self):
        """The ascending list of the ids of all rows."""
        return sorted(self._rows)

    def table_of(self, ident):
        """The table of the row with an id, or None if there is none."""
        if not is_id(ident) or ident not in self._rows:
            return None
        return self._rows[ident][0]

    def target(self, table, ident, field):
        """The id of the row to which a row links in a field, or None if it links to none."""
        link = self._rows[ident][1][field]
        if self._has(self._schema.leads_to(table, field), link):
            return link
        return None

    def linked(self, ident):
        """The ascending list of the tuples (table, id, field) of the links that have an id."""
        found = []
        for one in self._rows:
            table, row = self._rows[one]
            found.extend([(table, one, field) for field in self._schema.links(table) if row[field] == ident])
        return sorted(found)

    def names(self):
        """The ascending list of the different tag names."""
        found = []
        for one in self._rows:
            table, row = self._rows[one]
            found.extend([row[field] for field in self._schema.tags(table) if row[field] is not None])
        return sorted(set(found))

    def joined(self, other):
        """The Tables with the rows of both, for others with an equal schema."""
        for ident in self.ids():
            if ident in other._rows:
                raise Taken(ident)
        if len(self._rows) + len(other._rows) > MOST_ROWS:
            raise Full(MOST_ROWS)
        both = Tables(self._schema)
        both._rows = {**self._rows, **other._rows}
        return both

    def copied(self):
        """Equal Tables that go on by themselves."""
        copy = Tables(self._schema)
        copy._rows = dict(self._rows)
        return copy
