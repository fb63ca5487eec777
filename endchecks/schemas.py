"""Schemas: tables with their fields, and the rules that must hold in them."""

from endchecks.conds import fields_of, has_fields, is_tests, sort_of
from endchecks.copies import copy_of
from endchecks.errors import BadRule, Full, Wrong
from endchecks.names import is_id, is_name, is_tag_name

MOST_TABLES = 3
MOST_RULES = 6


def _are_tables(thing):
    if not isinstance(thing, dict) or not 1 <= len(thing) <= MOST_TABLES:
        return False
    if not all([is_name(table) and fields_of(thing[table]) for table in thing]):
        return False
    fields = [thing[table][name] for table in thing for name in thing[table]]
    return all([field[1] in thing for field in fields if field[0] == "link"])


def _ordered(fields):
    """A copy of a dict of fields, with its words ascending too."""
    copy = copy_of(fields)
    for name in fields:
        if fields[name][0] == "mark":
            copy[name] = ("mark", sorted(fields[name][1]))
    return copy


def _is_rule(tables, thing):
    """Whether a value is a rule for tables, whatever other rules there are."""
    if not isinstance(thing, tuple) or len(thing) not in (4, 6):
        return False
    if not is_name(thing[0]) or not is_name(thing[2]) or thing[2] not in tables:
        return False
    fields = tables[thing[2]]
    if len(thing) == 6:
        return thing[1] == "link" and _is_link_rule(tables, fields, thing)
    if thing[1] == "unique":
        return sort_of(fields, thing[3]) == "tag"
    return thing[1] in ("check", "some") and is_tests(fields, thing[3])


def _is_link_rule(tables, fields, thing):
    if sort_of(fields, thing[3]) != "link" or not is_tests(fields, thing[4]):
        return False
    return is_tests(tables[fields[thing[3]][1]], thing[5])


def _is_value(field, thing):
    """Whether a value is one that a row may have in a field."""
    if field[0] == "mark":
        return thing in field[1]
    if thing is None:
        return True
    if field[0] == "link":
        return is_id(thing)
    return is_tag_name(thing)


class Schema:
    """One to three tables, and at most six rules in their order; it never changes."""

    def __init__(self, tables, rules=()):
        if not _are_tables(tables):
            raise Wrong(0)
        if not isinstance(rules, (list, tuple)) or len(rules) > MOST_RULES:
            raise Wrong(1)
        for at, rule in enumerate(rules):
            if not _is_rule(tables, rule) or rule[0] in [earlier[0] for earlier in rules[:at]]:
                raise BadRule(at)
        self._tables = {table: _ordered(tables[table]) for table in sorted(tables)}
        self._rules = [copy_of(rule) for rule in rules]

    def __eq__(self, other):
        return isinstance(other, Schema) and self._tables == other._tables and self._rules == other._rules

    def tables(self):
        """The ascending list of the names of the tables."""
        return list(self._tables)

    def fields(self, table):
        """The dict of the fields of a table, the words of its marks ascending."""
        return copy_of(self._tables[table])

    def marks(self, table):
        """The ascending list of the marks of a table."""
        return self._of_sort(table, "mark")

    def links(self, table):
        """The ascending list of the links of a table."""
        return self._of_sort(table, "link")

    def tags(self, table):
        """The ascending list of the tags of a table."""
        return self._of_sort(table, "tag")

    def _of_sort(self, table, sort):
        fields = self._tables[table]
        return [name for name in fields if fields[name][0] == sort]

    def words(self, table, mark):
        """The ascending list of the words of a mark."""
        return list(self._tables[table][mark][1])

    def leads_to(self, table, link):
        """The table to which a link leads."""
        return self._tables[table][link][1]

    def rules(self):
        """The list of the rules, in their order."""
        return copy_of(self._rules)

    def names(self):
        """The list of the names of the rules, in their order."""
        return [rule[0] for rule in self._rules]

    def rule_of(self, name):
        """The rule of a name."""
        return copy_of(self._rules[self.rank_of(name)])

    def rank_of(self, name):
        """The index of the rule of a name."""
        return self.names().index(name)

    def is_row(self, table, thing):
        """Whether a value is a row of a table."""
        fields = self._tables[table]
        return has_fields(fields, thing) and all([_is_value(fields[name], thing[name]) for name in fields])

    def rows_of(self, table):
        """The number of the choices of words that the marks of a table have together."""
        many = 1
        for mark in self.marks(table):
            many = many * len(self.words(table, mark))
        return many

    def without(self, name):
        """The Schema without the rule of a name."""
        return Schema(self._tables, [rule for rule in self._rules if rule[0] != name])

    def more(self, rule):
        """The Schema with a rule, any value, behind the others."""
        if len(self._rules) >= MOST_RULES:
            raise Full(MOST_RULES)
        if not _is_rule(self._tables, rule) or rule[0] in self.names():
            raise BadRule(0)
        return Schema(self._tables, [*self._rules, rule])
