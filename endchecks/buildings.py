"""Buildings: tables with rows of kinds that stand together, three of each and perhaps some more."""

from endchecks.names import LETTERS
from endchecks.tables import Tables

ROWS_OF_A_KIND = 3
# With four puts there are at most 200 rows.
MOST_AT_START = 196
# How many rows a spot of some sort takes for itself, where there is room.
FURTHER_ROWS = {"linked": 1, "worded": 1, "shared": 2}


def letters(number):
    """The letters that stand for a number, other ones for each."""
    word = LETTERS[number % len(LETTERS)]
    rest = number // len(LETTERS)
    while rest > 0:
        word = LETTERS[rest % len(LETTERS)] + word
        rest = rest // len(LETTERS)
    return word


def words_of(several):
    """The list of the words of the puts of all scripts."""
    rows = [statement[3] for script, course in several for statement in _puts(script)]
    values = [row[field] for row in rows for field in row]
    return [value[1] for value in values if isinstance(value, tuple) and value[0] == "word"]


def _puts(script):
    statements = [script.statement_at(address) for address in script.addresses()]
    return [statement for statement in statements if statement[0] == "put"]


class Building:
    """Rows of kinds of a ground, whose links lead to rows of their partners."""

    def __init__(self, schema, ground, kinds, words):
        self._schema = schema
        self._ground = ground
        self._words = words
        # How many ids and names were made so far.
        self._made = 0
        self._rows = {}
        self._idents = {}
        # How many of the three rows of each kind have another link or name than those that they were built with.
        self._used = {}
        for kind in kinds:
            self._idents[kind] = [self._fresh("r") for _ in range(ROWS_OF_A_KIND)]
        for kind in kinds:
            for turn, ident in enumerate(self._idents[kind]):
                self._rows[ident] = (kind[0], self._row(kind, turn, ident))

    def _fresh(self, first):
        """An id or a name that was not made so far; its first letter tells what it is for."""
        self._made = self._made + 1
        return first + letters(self._made)

    def _fresh_name(self):
        name = self._fresh("t")
        while name in self._words:
            name = self._fresh("t")
        return name

    def _row(self, kind, turn, ident):
        """A row of a kind; turn is 0 to 2 for the three that there are of each, 3 for others."""
        table, marks, links, tags = kind
        row = {}
        for mark, word in zip(self._schema.marks(table), marks):
            row[mark] = word
        for field, link in zip(self._schema.links(table), links):
            row[field] = self._link(kind, turn, ident, field, link)
        for tag, truth in zip(self._schema.tags(table), tags):
            row[tag] = self._fresh_name() if truth else None
        return row

    def _link(self, kind, turn, ident, field, link):
        if link[0] == "none":
            return None
        if link[0] == "self":
            return ident
        if link[0] == "gone":
            return self._fresh("n")
        partner = self._ground.partners(kind)[self._schema.links(kind[0]).index(field)]
        return self._beside(kind, turn, field, partner)

    def _beside(self, kind, turn, field, other):
        """The id of a row of another kind, or of the same one: not of this row, nor for two links of it the same."""
        step = 1 + self._schema.links(kind[0]).index(field)
        return self._idents[other][(turn + step) % ROWS_OF_A_KIND]

    def add_spots(self, spots):
        """Links and names of some rows are made such that there are spots: those of further rows, if there is room."""
        further = sum([FURTHER_ROWS.get(spot[0], 0) for spot in spots])
        has_room = len(self._rows) + further <= MOST_AT_START
        for spot in spots:
            if spot[0] == "linked":
                kind, field, other = spot[1:]
                turn, ident = self._taken(kind, has_room)
                self._rows[ident][1][field] = self._beside(kind, turn, field, other)
            if spot[0] == "worded":
                self._name(spot[1], spot[2], spot[3], has_room)
            if spot[0] == "shared":
                name = self._fresh_name()
                self._name(spot[1], spot[2], name, has_room)
                self._name(spot[3], spot[4], name, has_room)

    def _name(self, kind, field, name, has_room):
        """Gives a row of a kind a name."""
        ident = self._taken(kind, has_room)[1]
        self._rows[ident][1][field] = name

    def _taken(self, kind, has_room):
        """The turn and the id of a row of a kind that may be changed: a further one, or one that was not so far."""
        many = self._used.get(kind, 0)
        if not has_room and many < ROWS_OF_A_KIND:
            self._used[kind] = many + 1
            return many, self._idents[kind][many]
        ident = self._fresh("r")
        self._rows[ident] = (kind[0], self._row(kind, ROWS_OF_A_KIND, ident))
        return ROWS_OF_A_KIND, ident

    def built(self):
        """The Tables."""
        tables = Tables(self._schema)
        for ident in self._rows:
            table, row = self._rows[ident]
            tables[table, ident] = row
        return tables
