"""Notation: what scripts, schemas, tables and what belongs to them look like as texts."""


def _listed(parts):
    """A text of parts, as it stands in brackets."""
    return "; ".join(parts)


def _lines(parts):
    return "".join([part + "\n" for part in parts])


def show_tests(tests):
    """The text of tests, in square brackets."""
    return "[" + _listed([_show_test(test) for test in tests]) + "]"


def _show_test(test):
    if test[0] == "not":
        return "not " + _show_test(test[1])
    if test[0] == "is":
        return " ".join(["is", test[1], *test[2]])
    if test[0] == "at":
        return " ".join(["at", test[1], show_tests(test[2])])
    return " ".join(test)


def _show_row(row):
    """The text of a row of tables or of a put, or of sets."""
    return "[" + _listed([field + " " + _show_value(row[field]) for field in sorted(row)]) + "]"


def _show_value(value):
    if value is None:
        return "-"
    if isinstance(value, str):
        return value
    if value[0] == "new":
        return "+" + value[1]
    if value[0] == "word":
        return "=" + value[1]
    if value[0] == "field":
        return "@" + value[1]
    return value[0]


def _show_body(body):
    return "{" + _listed([show_statement(statement) for statement in body]) + "}"


def show_statement(statement):
    """The text of a statement."""
    word = statement[0]
    if word == "put":
        return " ".join(["put", statement[1], statement[2], _show_row(statement[3])])
    if word == "change":
        return " ".join(["change", statement[1], show_tests(statement[2]), _show_row(statement[3])])
    if word == "take":
        return " ".join(["take", statement[1], show_tests(statement[2])])
    if word == "switch":
        return " ".join(["switch", *statement[1], statement[2]])
    if word == "trial":
        return "trial " + _show_body(statement[1])
    return " ".join(["try", _show_body(statement[1]), "[" + " ".join(statement[2]) + "]", _show_body(statement[3])])


def show_script(script):
    """The text of a Script: a line for each statement of its body."""
    return _lines([show_statement(statement) for statement in script.body()])


def show_address(address):
    """The text of an address."""
    if len(address) == 0:
        return "-"
    return ".".join([str(number) for number in address])


def show_schema(schema):
    """The text of a Schema: lines for its tables with their fields, and for its rules."""
    lines = []
    for table in schema.tables():
        fields = schema.fields(table)
        lines.append("table " + table)
        lines.extend([_show_field(name, fields[name]) for name in fields])
    return _lines(lines + [_show_rule(rule) for rule in schema.rules()])


def _show_field(name, field):
    if field[0] == "mark":
        return " ".join(["mark", name, *field[1]])
    return " ".join([field[0], name, *field[1:]])


def _show_rule(rule):
    told = [show_tests(part) if isinstance(part, list) else part for part in rule]
    return " ".join(["rule", *told])


def show_tables(tables):
    """The text of Tables: a line for each row."""
    lines = []
    for table in tables.schema.tables():
        rows = tables.rows(table)
        lines.extend([" ".join([table, ident, _show_row(rows[ident])]) for ident in rows])
    return _lines(lines)


def show_path(path):
    """The text of a path."""
    caught, end = path
    told = [_show_failure("caught", failure) for failure in caught]
    if end is None:
        return _listed([*told, "done"])
    return _listed([*told, _show_failure("failed", end)])


def _show_failure(word, failure):
    return " ".join([word, show_address(failure[0]), failure[1]])


def show_modes(modes):
    """The text of modes: all that the dict has."""
    return _listed([name + " " + modes[name] for name in sorted(modes)])


def show_deed(deed):
    """The text of a deed."""
    if deed[0] == "insert":
        return " ".join(["insert", show_address(deed[1]), show_statement(deed[2])])
    if deed[0] == "remove":
        return "remove " + show_address(deed[1])
    return " ".join(deed)


def show_log(book):
    """The text of the log of a Book: a line for each deed."""
    return _lines([show_deed(deed) for deed in book.log()])
