"""Rosters: lists of kinds with their links and tags, told by indexes and by masks of these."""

from endchecks.masks import mask_of


class Roster:
    """A list of different kinds; it never changes."""

    def __init__(self, schema, kinds):
        self._schema = schema
        self._kinds = kinds
        self._places = {kind: at for at, kind in enumerate(kinds)}
        # Links ("other",) and tags with a name, as tuples (index of the kind, field).
        self._ends = []
        self._tags = []
        # For each kind a list of what it needs: tuples (field, whether it is a kind, its index or that of a link).
        self._needs = []
        for at, kind in enumerate(kinds):
            self._enter(schema, at, kind)
        self._homes = {table: mask_of([place for place, here in enumerate(kinds) if here[0] == table])
                       for table in schema.tables()}
        self._leads = [schema.leads_to(kinds[at][0], field) for at, field in self._ends]

    def _enter(self, schema, at, kind):
        """Notes the links and the tags of a kind."""
        needs = []
        for field, link in zip(schema.links(kind[0]), kind[2]):
            if link[0] == "at":
                needs.append((field, True, self._places.get(link[1])))
            if link[0] == "other":
                needs.append((field, False, len(self._ends)))
                self._ends.append((at, field))
        self._needs.append(needs)
        self._tags.extend([(at, field) for field, truth in zip(schema.tags(kind[0]), kind[3]) if truth])

    def kind_at(self, at):
        """The kind with an index."""
        return self._kinds[at]

    def place_of(self, kind):
        """The index of a kind."""
        return self._places[kind]

    def whole(self):
        """The mask of all kinds."""
        return (1 << len(self._kinds)) - 1

    def home(self, table):
        """The mask of the kinds of a table."""
        return self._homes[table]

    def links_of(self, kind):
        """The list of the links of the table of a kind."""
        return self._schema.links(kind[0])

    def needs(self, at):
        """The list of the tuples (field, whether it is a kind, its index or that of a link) of what a kind needs."""
        return self._needs[at]

    def end_at(self, index):
        """The tuple (index of the kind, field) of a link with an index."""
        return self._ends[index]

    def tag_at(self, index):
        """The tuple (index of the kind, field) of a tag with an index."""
        return self._tags[index]

    def ends_of(self, kept):
        """The list of the indexes of the links of the kinds of a mask."""
        return [index for index, end in enumerate(self._ends) if kept >> end[0] & 1]

    def tags_of(self, kept):
        """The list of the indexes of the tags of the kinds of a mask."""
        return [index for index, tag in enumerate(self._tags) if kept >> tag[0] & 1]

    def behind_ends(self):
        """The list of the masks of all kinds to which each link may lead."""
        return [self._homes[table] for table in self._leads]
