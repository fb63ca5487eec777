"""Readers: texts as notation writes them are read back, all others refused.

What is read is written once more and must give the same text. So the functions that take texts apart may take bent
ones: with other brackets and blanks, two rows with one id, fields in another order, numbers with leading zeros.
"""

from endchecks.books import Book, is_deed
from endchecks.conds import MOST_NOTS, sort_of
from endchecks.errors import CheckError, NoText
from endchecks.modes import are_modes
from endchecks.names import is_name
from endchecks.notation import (
    show_address, show_deed, show_modes, show_path, show_schema, show_script, show_statement, show_tables, show_tests)
from endchecks.pieces import inside, lines_of, listed, text_of, words_in
from endchecks.schemas import Schema
from endchecks.scripts import Script
from endchecks.statements import are_far_tests, is_statement
from endchecks.tables import Tables

DIGITS = "0123456789"
MOST_DIGITS = 9
# What stands ahead of the name in a value of a row of a put, or of sets, and what it stands for.
SIGNS = {"+": "new", "=": "word", "@": "field"}


def read_tests(schema, table, text):
    """The tests of a change or take over a table that a text tells."""
    tests = _tests(text_of(text))
    if not are_far_tests(schema, table, tests) or show_tests(tests) != text:
        raise NoText()
    return tests


def _tests(text):
    return [_test(part) for part in listed(inside(text))]


def _test(text):
    words = words_in(text)
    nots = 0
    while words[0] == "not" and len(words) > 1 and nots < MOST_NOTS:
        words = words[1:]
        nots = nots + 1
    test = _inner_test(words)
    for _ in range(nots):
        test = ("not", test)
    return test


def _inner_test(words):
    """What words stand for behind all nots."""
    if words[0] == "is" and len(words) > 2:
        return ("is", words[1], words[2:])
    if words[0] == "at" and len(words) == 3:
        return ("at", words[1], _tests(words[2]))
    return tuple(words)


def _row(text):
    """The dict of the fields and values that a text tells."""
    pairs = [words_in(part) for part in listed(inside(text))]
    if not all([len(pair) == 2 for pair in pairs]):
        raise NoText()
    return {name: None if value == "-" else value for name, value in pairs}


def _told_row(schema, table, text):
    """The row of a put, or the sets, that a text tells."""
    if table not in schema.tables():
        raise NoText()
    fields = schema.fields(table)
    row = _row(text)
    return {name: _told_value(sort_of(fields, name), row[name]) for name in row}


def _told_value(sort, value):
    if value is None or sort == "mark":
        return value
    if value == "own":
        return ("own",)
    if value[:1] in SIGNS:
        return (SIGNS[value[:1]], value[1:])
    return value


def read_statement(schema, text):
    """The statement that a text tells."""
    statement = _statement(schema, text_of(text))
    if not is_statement(schema, statement) or show_statement(statement) != text:
        raise NoText()
    return statement


def _statement(schema, text):
    words = words_in(text)
    first = words[0]
    if first == "put" and len(words) == 4:
        return ("put", words[1], words[2], _told_row(schema, words[2], words[3]))
    if first == "change" and len(words) == 4:
        return ("change", words[1], _tests(words[2]), _told_row(schema, words[1], words[3]))
    if first == "take" and len(words) == 3:
        return ("take", words[1], _tests(words[2]))
    if first == "switch" and len(words) > 2:
        return ("switch", words[1:-1], words[-1])
    if first == "trial" and len(words) == 2:
        return ("trial", _body(schema, words[1]))
    if first == "try" and len(words) == 4:
        return ("try", _body(schema, words[1]), _caught(words[2]), _body(schema, words[3]))
    raise NoText()


def _body(schema, text):
    return [_statement(schema, part) for part in listed(inside(text))]


def _caught(text):
    """The list of the names in square brackets."""
    names = inside(text)
    if names == "":
        return []
    return words_in(names)


def read_script(schema, text):
    """The Script that a text tells."""
    body = [_statement(schema, line) for line in lines_of(text)]
    try:
        script = Script(schema, body)
    except CheckError:
        raise NoText()
    if show_script(script) != text:
        raise NoText()
    return script


def read_address(text):
    """The address that a text tells."""
    address = _address(text_of(text))
    if show_address(address) != text:
        raise NoText()
    return address


def _address(text):
    if text == "-":
        return ()
    return tuple([_number(part) for part in text.split(".")])


def _number(text):
    if not 1 <= len(text) <= MOST_DIGITS or not all([sign in DIGITS for sign in text]):
        raise NoText()
    return int(text)


def read_schema(text):
    """The Schema that a text tells."""
    tables, rules = {}, []
    fields = None
    for line in lines_of(text):
        words = words_in(line)
        if len(words) < 2:
            raise NoText()
        if words[0] == "table":
            fields = {}
            tables[words[1]] = fields
        elif words[0] == "rule":
            rules.append(_rule(words[1:]))
        elif fields is None:
            raise NoText()
        else:
            fields[words[1]] = _field(words)
    try:
        schema = Schema(tables, rules)
    except CheckError:
        raise NoText()
    if show_schema(schema) != text:
        raise NoText()
    return schema


def _field(words):
    if words[0] == "mark":
        return ("mark", words[2:])
    return (words[0], *words[2:])


def _rule(words):
    return tuple([_tests(word) if word[:1] == "[" else word for word in words])


def read_tables(schema, text):
    """The Tables that a text tells."""
    tables = Tables(schema)
    for line in lines_of(text):
        words = words_in(line)
        if len(words) != 3:
            raise NoText()
        _put(tables, words[0], words[1], _row(words[2]))
    if show_tables(tables) != text:
        raise NoText()
    return tables


def _put(tables, table, ident, row):
    try:
        tables[table, ident] = row
    except CheckError:
        raise NoText()


def read_path(text):
    """The path that a text tells."""
    told = [words_in(part) for part in listed(text_of(text))]
    if len(told) == 0:
        raise NoText()
    caught = [_failure("caught", words) for words in told[:-1]]
    end = None
    if told[-1] != ["done"]:
        end = _failure("failed", told[-1])
    path = (tuple(caught), end)
    if show_path(path) != text:
        raise NoText()
    return path


def _failure(word, words):
    if len(words) != 3 or words[0] != word or not is_name(words[2]):
        raise NoText()
    return (_address(words[1]), words[2])


def read_modes(schema, text):
    """The modes that a text tells."""
    pairs = [words_in(part) for part in listed(text_of(text))]
    if not all([len(pair) == 2 for pair in pairs]):
        raise NoText()
    modes = {name: mode for name, mode in pairs}
    if not are_modes(schema, modes) or show_modes(modes) != text:
        raise NoText()
    return modes


def read_deed(schema, text):
    """The deed that a text tells."""
    deed = _deed(schema, text_of(text))
    if not is_deed(schema, deed) or show_deed(deed) != text:
        raise NoText()
    return deed


def _deed(schema, text):
    words = words_in(text)
    if words[0] == "insert" and len(words) > 2:
        return ("insert", _address(words[1]), _statement(schema, " ".join(words[2:])))
    if words[0] == "remove" and len(words) == 2:
        return ("remove", _address(words[1]))
    return tuple(words)


def read_log(script, modes, text):
    """The Book behind the deeds of a log that a text tells."""
    deeds = [read_deed(script.schema, line) for line in lines_of(text)]
    book = Book(script, modes)
    for deed in deeds:
        book.do(deed)
    return book
