"""Schemas, rows and values that several tests use."""

import copy

from endchecks.schemas import Schema
from endchecks.tables import Tables

FIELDS = {"state": ("mark", ["open", "done"]), "boss": ("link", "task"), "code": ("tag",)}
ROW = {"state": "open", "boss": None, "code": "ab"}
RULES = [
    ("whole", "link", "task", "boss", [], [("is", "state", ["open"])]),
    ("some", "some", "task", []),
    ("code", "unique", "task", "code"),
]


class Thing:
    """A value of a kind that the package does not know."""


# One value of each kind, True and False among them; none of them is a name, a mode or an id.
ODD = [
    None, True, False, 0, 1, -1, 10 ** 30, "", " ", "A", "a b", "a\n", "\na", "+", "+ ", "++a", "a+", "abcdefghi",
    "a1", "a_b", "a.b", "+a.", "+.a", "+a.b.c", b"a", b"", [], ["a"], (), ("a",), {}, {"a": "b"}, {1: 2}, set(),
    {"a"}, frozenset({"a"}), [[[[]]]], ((("a",),),), Thing(), Thing,
]


def not_nested(test, many):
    """A test within so many nots."""
    for _ in range(many):
        test = ("not", test)
    return test


def deep(levels):
    """A list in a list and so on."""
    thing = []
    for _ in range(levels):
        thing = [thing]
    return thing


def tree(rules=RULES):
    """The schema of the examples."""
    return Schema(copy.deepcopy({"task": FIELDS}), copy.deepcopy(rules))


def task(state="open", boss=None, code=None):
    """A row of a task."""
    return {"state": state, "boss": boss, "code": code}


def tasks(rows, rules=RULES):
    """Tables of tasks: rows from ids to what task takes."""
    tables = Tables(tree(rules))
    for ident, row in rows.items():
        tables["task", ident] = task(*row)
    return tables


def shop(rules=()):
    """A schema of three tables, with links to and fro."""
    return Schema({
        "item": {"kind": ("mark", ["big", "small"]), "maker": ("link", "maker"), "name": ("tag",), "nick": ("tag",)},
        "maker": {"best": ("link", "item"), "other": ("link", "maker"), "name": ("tag",)},
        "plain": {},
    }, rules)
