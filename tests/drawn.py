"""Schemas, tables, scripts and modes that are drawn, for tests that hold for all of them."""

from endchecks.errors import CheckError
from endchecks.schemas import Schema
from endchecks.scripts import Script
from endchecks.spots import is_legal
from endchecks.tables import Tables


def some_of(chance, things, most):
    """A list of at most so many different things, in any order."""
    return chance.sample(things, min(len(things), chance.randint(0, most)))


def draw_fields(chance, tables, many):
    fields = {}
    for name in some_of(chance, ["a", "b", "c", "d", "e", "f"], many):
        sort = chance.choice(["mark", "link", "link", "tag"])
        if [field[0] for field in fields.values()].count(sort) < 2:
            if sort == "mark":
                fields[name] = ("mark", chance.choice([["u", "v"], ["u", "v"], ["u", "v", "w"]]))
            else:
                fields[name] = ("link", chance.choice(tables)) if sort == "link" else ("tag",)
    return fields


def draw_tests(chance, fields, most=2):
    tests = []
    for _ in range(chance.randint(0, most)):
        if fields:
            name = chance.choice(sorted(fields))
            test = ("none", name)
            if fields[name][0] == "mark":
                test = ("is", name, chance.sample(fields[name][1], chance.randint(1, 2)))
            for _ in range(chance.choice([0, 0, 1, 1, 2])):
                test = ("not", test)
            tests.append(test)
    return tests


def draw_rule(chance, tables, name):
    """A rule of any sort, as far as the fields of its table allow it."""
    table = chance.choice(sorted(tables))
    fields = tables[table]
    links = [field for field in fields if fields[field][0] == "link"]
    tags = [field for field in fields if fields[field][0] == "tag"]
    sort = chance.choice(["check", "some"] + ["link"] * 3 * bool(links) + ["unique"] * 2 * bool(tags))
    if sort == "unique":
        return (name, "unique", table, chance.choice(tags))
    if sort == "link":
        link = chance.choice(links)
        there = draw_tests(chance, tables[fields[link][1]], 1)
        return (name, "link", table, link, draw_tests(chance, fields, 1), there)
    return (name, sort, table, draw_tests(chance, fields))


def draw_schema(chance, many_tables=2, many_fields=3, many_rules=3):
    names = ["s", "t", "r"][:chance.randint(1, many_tables)]
    tables = {table: draw_fields(chance, names, many_fields) for table in names}
    rules = [draw_rule(chance, tables, name) for name in "klmnop"[:chance.randint(0, many_rules)]]
    return Schema(tables, rules)


def draw_row(chance, schema, table, idents):
    row = {}
    for name, field in schema.fields(table).items():
        if field[0] == "mark":
            row[name] = chance.choice(field[1])
        elif field[0] == "link":
            row[name] = chance.choice([None, *idents])
        else:
            row[name] = chance.choice([None, None, "x", "y", "z"])
    return row


def draw_tables(chance, schema, most=5):
    """Tables, legal or not."""
    tables = Tables(schema)
    idents = ["a", "b", "c", "d", "e", "f", "g"][:chance.randint(0, most)]
    for ident in idents:
        table = chance.choice(schema.tables())
        tables[table, ident] = draw_row(chance, schema, table, [*idents, "z"])
    return tables


def draw_legal(chance, schema, most=5, tries=40):
    """Legal tables, or None if none were drawn."""
    for _ in range(tries):
        tables = draw_tables(chance, schema, most)
        if is_legal(tables):
            return tables
    return None


def draw_far_tests(chance, schema, table, handles, most=2):
    tests = []
    fields = schema.fields(table)
    for _ in range(chance.randint(0, most)):
        kind = chance.choice(["plain", "plain", "at", "new", "row"])
        links = schema.links(table)
        test = None
        if kind == "row" and handles:
            test = ("row", chance.choice(handles))
        elif kind == "new" and handles and links:
            test = ("new", chance.choice(links), chance.choice(handles))
        elif kind == "at" and links:
            link = chance.choice(links)
            test = ("at", link, draw_tests(chance, schema.fields(schema.leads_to(table, link)), 1))
        else:
            tests.extend(draw_tests(chance, fields, 1))
        if test is not None:
            tests.append(("not", test) if chance.random() < 0.4 else test)
    return tests


def draw_value(chance, fields, name, handles, is_put):
    field = fields[name]
    if field[0] == "mark":
        return chance.choice(field[1])
    if field[0] == "link":
        choices = [None] + [("new", handle) for handle in handles] * 2
    else:
        choices = [None, ("own",), ("word", "x"), ("word", "y")] if is_put else [None]
    if not is_put:
        choices += [("field", other) for other in fields if fields[other] == field]
    return chance.choice(choices)


def draw_single(chance, schema, handles, puts, switches):
    """A put, change, take or switch. puts is a list of handles that are not put so far; it gets shorter."""
    table = chance.choice(schema.tables())
    fields = schema.fields(table)
    kind = chance.choice(["change", "change", "change", "take"] + ["put"] * 2 * bool(puts) + ["switch"] * switches)
    if kind == "put":
        row = {name: draw_value(chance, fields, name, handles, True) for name in fields}
        return ("put", puts.pop(), table, row)
    if kind == "switch" and schema.names():
        names = chance.sample(schema.names(), chance.randint(1, len(schema.names())))
        return ("switch", names, chance.choice(["each", "now", "late"]))
    names = some_of(chance, sorted(fields), 2)
    tests = draw_far_tests(chance, schema, table, handles)
    if kind == "change" and names:
        return ("change", table, tests, {name: draw_value(chance, fields, name, handles, False) for name in names})
    return ("take", table, tests)


def draw_body(chance, schema, handles, puts, most, depth, switches):
    body = []
    catchable = [rule[0] for rule in schema.rules() if rule[1] != "unique"]
    for _ in range(chance.randint(0 if depth < 2 else 1, most)):
        kind = chance.choice(["one", "one", "one", "trial", "try", "try"]) if depth > 0 else "one"
        inner = [draw_body(chance, schema, handles, puts, 2, depth - 1, switches) for _ in "xy"] if kind != "one" else []
        if kind == "trial":
            body.append(("trial", inner[0]))
        elif kind == "try":
            body.append(("try", inner[0], some_of(chance, catchable, 3), inner[1]))
        else:
            body.append(draw_single(chance, schema, handles, puts, switches))
    return body


def draw_script(chance, schema, most=3, depth=2, switches=1):
    """A script; with blocks within one another so deep, and with switches or (0) without."""
    while True:
        handles = ["h", "i"][:chance.choice([0, 1, 1, 2])]
        puts = list(handles)
        body = draw_body(chance, schema, handles, puts, most, depth, switches)
        for handle in puts:
            table = chance.choice(schema.tables())
            fields = schema.fields(table)
            row = {name: draw_value(chance, fields, name, handles, True) for name in fields}
            body.insert(chance.randint(0, len(body)), ("put", handle, table, row))
        try:
            return Script(schema, body)
        except CheckError:
            pass


def draw_modes(chance, schema):
    return {name: chance.choice(["each", "now", "late"]) for name in some_of(chance, schema.names(), 6)}


def draw_test(chance, fields):
    """One plain test of a table with fields."""
    while True:
        tests = draw_tests(chance, fields, 1)
        if tests:
            return tests[0]


def draw_lively_rule(chance, tables, name):
    table = chance.choice(sorted(tables))
    fields = tables[table]
    links = [field for field in fields if fields[field][0] == "link"]
    tags = [field for field in fields if fields[field][0] == "tag"]
    sort = chance.choice(["check", "some", "link", "link", "link"] + ["unique"] * 2 * bool(tags))
    if sort == "link" and links:
        link = chance.choice(links)
        there = [draw_test(chance, tables[fields[link][1]])] if chance.random() < 0.6 else []
        return (name, "link", table, link, draw_tests(chance, fields, 1) if chance.random() < 0.4 else [], there)
    if sort == "unique":
        return (name, "unique", table, chance.choice(tags))
    return (name, "some" if sort == "some" else "check", table, [draw_test(chance, fields)])


def draw_lively_single(chance, schema, handles, puts):
    table = chance.choice(schema.tables())
    fields = schema.fields(table)
    links = schema.links(table)
    tests = [draw_test(chance, fields)] if chance.random() < 0.8 else []
    if chance.random() < 0.2 and links:
        link = chance.choice(links)
        inner = schema.fields(schema.leads_to(table, link))
        test = ("at", link, [draw_test(chance, inner)]) if schema.leads_to(table, link) != table else ("none", link)
        tests = [chance.choice([test, ("not", test)])]
    kind = chance.choice(["change", "change", "change", "take", "switch"] + ["put"] * 2 * bool(puts))
    if kind == "put":
        row = {name: draw_value(chance, fields, name, handles, True) for name in fields}
        return ("put", puts.pop(), table, row)
    if kind == "switch":
        return ("switch", chance.sample(schema.names(), 1), chance.choice(["each", "now", "late"]))
    if kind == "take":
        return ("take", table, tests)
    names = chance.sample(sorted(fields), chance.choice([1, 1, 2]))
    return ("change", table, tests, {name: draw_value(chance, fields, name, handles, False) for name in names})


def draw_lively_body(chance, schema, handles, puts, many, depth):
    body = []
    catchable = [rule[0] for rule in schema.rules() if rule[1] != "unique"]
    for _ in range(many):
        kind = chance.choice(["one", "one", "trial", "try", "try", "try"]) if depth else "one"
        if kind == "one":
            body.append(draw_lively_single(chance, schema, handles, puts))
        else:
            first, second = [draw_lively_body(chance, schema, handles, puts, part, depth - 1)
                             for part in [chance.choice([1, 2]), chance.choice([0, 1])]]
            caught = chance.sample(catchable, chance.randint(min(1, len(catchable)), len(catchable)))
            body.append(("trial", first) if kind == "trial" else ("try", first, caught, second))
    return body


def draw_lively(chance):
    """A schema, a script and modes in which rules are likelier to fail than in those above."""
    fields = {"m": ("mark", ["u", "v"]), "t": ("tag",)}
    fields.update({link: ("link", "s") for link in chance.choice(["x", "x", "xy"])})
    tables = {"s": fields}
    if chance.random() < 0.3:
        tables["r"] = {"n": ("mark", ["u", "v"]), "z": ("link", chance.choice("rs"))}
        fields["x"] = ("link", chance.choice("rs"))
    if chance.random() < 0.2:
        fields["w"] = ("tag",)
    schema = Schema(tables, [draw_lively_rule(chance, tables, name) for name in "klmno"[:chance.choice([1, 2, 2, 3, 3, 4])]])
    while True:
        handles = ["h", "i"][:chance.choice([0, 0, 1, 2])]
        puts = list(handles)
        body = draw_lively_body(chance, schema, handles, puts, chance.choice([1, 2, 3]), chance.choice([0, 1, 1, 2]))
        try:
            return schema, Script(schema, body), draw_modes(chance, schema)
        except CheckError:
            pass
