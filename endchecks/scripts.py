"""Scripts: lists of statements, some of which have bodies of statements in them."""

from endchecks.copies import copy_of
from endchecks.errors import BadStatement, Full, NoPlace, Twice, Unput, Wrong
from endchecks.names import is_integer
from endchecks.schemas import Schema
from endchecks.statements import (
    handles_in, is_item, looked_at, new_links, new_rows, over, own_bodies, with_body)

MOST_STATEMENTS = 12
MOST_PUTS = 4
# A statement stands in at most three others, each of which adds two numbers to its address.
LONGEST_ADDRESS = 7


def _items(schema, body, ahead):
    """The list of the tuples (address, statement) of a body and of all bodies in it, addresses ascending."""
    found = []
    for at, item in enumerate(body):
        address = (*ahead, at)
        if len(address) > LONGEST_ADDRESS or not is_item(schema, item):
            raise BadStatement(address)
        found.append((address, item))
        for number, inner in enumerate(own_bodies(item)):
            found.extend(_items(schema, inner, (*address, number)))
    return found


def _puts(statements):
    """The list of the handles that statements put, with those that are put twice."""
    return [statement[1] for statement in statements if statement[0] == "put"]


def _check_numbers(statements):
    if len(statements) > MOST_STATEMENTS:
        raise Full(MOST_STATEMENTS)
    if len(_puts(statements)) > MOST_PUTS:
        raise Full(MOST_PUTS)


def _check_handles(statements):
    handles = sorted(_puts(statements))
    for handle in handles:
        if handles.count(handle) > 1:
            raise Twice(handle)
    for named in sorted({name for statement in statements for name in handles_in(statement)}):
        if named not in handles:
            raise Unput(named)


def _check_tables(schema, found):
    """Raises for new rows where rows of another table stand, and for looks along tables that look, too."""
    homes = {pair[1][1]: pair[1][2] for pair in found if pair[1][0] == "put"}
    # A statement that looks at its own table does so at one that looks: its own look makes it one.
    lookers = [look[0] for look in _looks(schema, found)]
    for address, statement in found:
        if _is_misled(schema, statement, homes):
            raise BadStatement(address)
        if any([table in lookers for table in looked_at(schema, statement)]):
            raise BadStatement(address)


def _is_misled(schema, statement, homes):
    """Whether a statement names a new row where only rows of another table than its own can be."""
    if any([homes[handle] != schema.leads_to(over(statement), link) for link, handle in new_links(statement)]):
        return True
    return any([homes[handle] != over(statement) for handle in new_rows(statement)])


def _looks(schema, found):
    """The ascending list of the different tuples (table, other) of the "at" tests of statements."""
    return sorted({(over(pair[1]), other) for pair in found for other in looked_at(schema, pair[1])})


def _spliced(body, address, gone, fresh):
    """A body in which, from an address in it on, some statements are gone and those of a list stand."""
    at = address[0]
    if len(address) == 1:
        return body[:at] + fresh + body[at + gone:]
    inner = _spliced(own_bodies(body[at])[address[1]], address[2:], gone, fresh)
    return body[:at] + [with_body(body[at], address[1], inner)] + body[at + 1:]


class Script:
    """A list of statements of a schema that fit one another; it never changes."""

    def __init__(self, schema, body):
        if not isinstance(schema, Schema):
            raise Wrong(0)
        if not isinstance(body, list):
            raise Wrong(1)
        found = _items(schema, body, ())
        statements = [pair[1] for pair in found]
        _check_numbers(statements)
        _check_handles(statements)
        _check_tables(schema, found)
        self._schema = schema
        self._body = copy_of(body)
        self._found = dict(_items(schema, self._body, ()))

    def __eq__(self, other):
        return isinstance(other, Script) and self._schema == other._schema and self._body == other._body

    def __len__(self):
        return len(self._found)

    def __contains__(self, x):
        return isinstance(x, tuple) and all([is_integer(number) for number in x]) and x in self._found

    @property
    def schema(self):
        """The Schema."""
        return self._schema

    def body(self):
        """The list of the statements."""
        return copy_of(self._body)

    def addresses(self):
        """The ascending list of the addresses of all statements."""
        return sorted(self._found)

    def statement_at(self, address):
        """The statement at an address."""
        return copy_of(self._found[address])

    def handles(self):
        """The dict from the handles that are put to tuples (table, address)."""
        places = {}
        for address in self._found:
            statement = self._found[address]
            if statement[0] == "put":
                places[statement[1]] = (statement[2], address)
        return copy_of(places)

    def looks(self):
        """The ascending list of the tuples (table, other): a change or take of table looks along a link to other."""
        return _looks(self._schema, [(address, self._found[address]) for address in self._found])

    def is_plain(self):
        """Whether there is no trial and no try."""
        return all([self._found[address][0] not in ("trial", "try") for address in self._found])

    def tries(self):
        """The ascending list of the addresses of tries."""
        return [address for address in self.addresses() if self._found[address][0] == "try"]

    def put_in(self, address, statement):
        """The Script with a statement ahead of what is at an address, or at the end of a body."""
        if not self._is_place(address):
            raise NoPlace(address)
        return Script(self._schema, _spliced(self._body, address, 0, [statement]))

    def _is_place(self, address):
        if not isinstance(address, tuple) or len(address) == 0:
            return False
        if not all([is_integer(number) and number >= 0 for number in address]):
            return False
        if len(address) == 1:
            return address[0] <= len(self._body)
        block = address[:-2]
        if block not in self._found:
            return False
        inner = own_bodies(self._found[block])
        return address[-2] < len(inner) and address[-1] <= len(inner[address[-2]])

    def without(self, address):
        """The Script without the statement at an address."""
        if address not in self:
            raise NoPlace(address)
        return Script(self._schema, _spliced(self._body, address, 1, []))

    def order(self, places):
        """The Script, if it is plain, with its statements in the order of a list of their indexes."""
        return Script(self._schema, [self._body[place] for place in places])

    def followed_by(self, other):
        """The Script with the statements of this one and, behind them, those of another one with an equal schema."""
        return Script(self._schema, self._body + other._body)
