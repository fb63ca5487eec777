"""The interface: names, arguments, and the files in which they are defined."""

import importlib
import inspect
import re
import unittest

from endchecks import errors

# Modules, and what they define: functions, and classes with their methods, properties and operators.
FUNCTIONS = {
    "names": "is_integer(thing) is_name(thing) is_id(thing) is_new_id(thing) is_tag_name(thing) is_mode(thing) less(one, other) new_id(handle)"
             " own_name(handle, field)",
    "conds": "fields_of(thing) is_tests(fields, thing) meets(row, tests) fields_in(tests)",
    "spots": "spots(tables, name) spot_rows(spot) apart(tables) holds(tables, name) is_legal(tables) first_broken(tables)",
    "statements": "are_far_tests(schema, table, thing) is_statement(schema, thing) meets_far(tables, ident, tests) bodies(statement)"
                  " handles_in(statement) looked_at(schema, statement)",
    "doing": "touched(tables, statement) done(tables, statement) part_done(tables, statement, ids) stages(tables, statement, ident)"
             " spots_within(tables, statement, name) holds_within(tables, statement, name)",
    "runs": "run(script, tables, modes) events(script, tables, modes) moments(script, tables, modes) unchecked(script, tables)"
            " final_modes(script, tables, modes) where(script, tables, modes)",
    "rowkinds": "row_kinds(schema, looks, *, most=200) how_many(schema, looks) is_kind(schema, looks, thing) kind_meets(schema, kind, tests)"
                " kind_of(tables, looks, ident)",
    "ways": "is_path(script, modes, thing) course(script, modes, path) open_course(script, events) way(script, steps, kind)"
            " new_way(script, steps, handle)",
    "fits": "breaks(script, course, check, kind) new_breaks(script, course, check, handle) meets_some(script, course, check, kind)"
            " new_meets(script, course, check, handle) is_linked_well(script, course, kind, field, other)"
            " is_linked_badly(script, course, check, kind, field, other) is_shared_well(script, course, kind, field, other, its_field)"
            " is_shared_badly(script, course, check, kind, field, other, its_field) is_worded_well(script, course, kind, field, word)"
            " is_worded_badly(script, course, check, kind, field, word) breaks_first(script, course, kind)",
    "supports": "supports(several, *, most=200) are_falls(several, thing) do_stand(several, thing)",
    "hubs": "partners(several, kept, kind) needed(several, kept, kinds) hub(several, kept, kinds)",
    "paths": "fits(several, tables) is_bar(several, thing) can_go(script, modes, path, *, most=200) tables_for(several, kinds=(), *, most=200)"
             " tables_on(script, modes, path, *, most=200) bar(several, *, most=200) paths(script, modes, *, most=200)",
    "failures": "failures(script, modes, *, most=200) never_fails(script, modes, *, most=200) always_fails(script, modes, *, most=200)"
                " failing(script, modes, failure, *, most=200)",
    "idle": "idle_checks(script, modes, *, most=200) unentered(script, modes, *, most=200) unreached(script, modes, *, most=200)"
            " idle_names(script, modes, *, most=200)",
    "alike": "end_alike(one, other, tables, modes, its) part(one, other, modes, its, *, most=200)",
    "needed": "breaks(script, *, most=200) tables_in(script, address, name, way, *, most=200) needed_modes(script, *, most=200)",
    "lates": "fails_amid(script, modes, *, most=200) put_off(modes, names) least_lates(script, modes, *, most=200)",
    "orders": "orders(script, modes, *, most=100) calm(script, modes, *, most=100)",
    "notation": "show_tests(tests) show_statement(statement) show_script(script) show_address(address) show_schema(schema) show_tables(tables)"
                " show_path(path) show_modes(modes) show_deed(deed) show_log(book)",
    "readers": "read_tests(schema, table, text) read_statement(schema, text) read_script(schema, text) read_address(text) read_schema(text)"
               " read_tables(schema, text) read_path(text) read_modes(schema, text) read_deed(schema, text) read_log(script, modes, text)",
}
CLASSES = {
    "schemas": ("Schema(tables, rules=())", "tables() marks(table) links(table) tags(table) words(table, mark) rules() names() fields(table)"
                " leads_to(table, link) rule_of(name) rank_of(name) rows_of(table) is_row(table, thing) without(name) more(rule)", "__eq__"),
    "tables": ("Tables(schema)", "drop(table, ident) rows(table) ids() linked(ident) names() table_of(ident) target(table, ident, field)"
               " joined(other) copied()", "__eq__ __len__ __contains__ __getitem__ __setitem__ schema"),
    "scripts": ("Script(schema, body)", "body() addresses() looks() tries() statement_at(address) handles() is_plain() put_in(address, statement)"
                " without(address) order(places) followed_by(other)", "__eq__ __len__ __contains__ schema"),
    "stores": ("Store(schema, tables, modes)", "do(statement) finish() tables() modes() log() pending(name) broken() checks(statement)"
               " end_checks() trial(act) guard(act) copied()", "__eq__ __len__ schema"),
    "books": ("Book(script, modes)", "do(deed) back() again() script() modes() log() past(many) copied()", "__eq__ __len__"),
    "desk": ("Desk(script, modes)", "execute(line)", ""),
}
ERRORS = ("Wrong(place) TooMany(limit) Full(limit) BadRule(at) BadRow(ident) NoRow(ident) Taken(ident) BadStatement(address) Twice(handle)"
          " Unput(handle) Unfit() NoPlace(address) Broken(rule) Illegal(rule) NoDeed() Nothing() NoText() NoCommand()")


def told(text):
    """The pairs of a name and its arguments that a text tells."""
    return re.findall(r"(\w+)(\((?:[^()]|\(\))*\))", text)


def arguments(thing, is_method=False):
    parameters = list(inspect.signature(thing).parameters.values())[is_method:]
    return str(inspect.Signature(parameters))


class InterfaceTest(unittest.TestCase):
    def module(self, name):
        return importlib.import_module("endchecks." + name)

    def test_what_is_told_of_arguments(self):
        self.assertEqual(told("a() b(c, d=()) e(f)"), [("a", "()"), ("b", "(c, d=())"), ("e", "(f)")])

    def test_functions(self):
        for name, text in FUNCTIONS.items():
            for function, awaited in told(text):
                thing = vars(self.module(name))[function]
                self.assertTrue(inspect.isfunction(thing), (name, function))
                self.assertEqual((thing.__module__, thing.__name__), ("endchecks." + name, function))
                self.assertEqual(arguments(thing), awaited, (name, function))

    def test_classes(self):
        for name, (text, methods, others) in CLASSES.items():
            (kind, awaited), = told(text)
            thing = vars(self.module(name))[kind]
            self.assertEqual((thing.__module__, inspect.isclass(thing)), ("endchecks." + name, True))
            self.assertEqual(arguments(thing), awaited, name)
            for method, parameters in told(methods):
                self.assertEqual(arguments(vars(thing)[method], True), parameters, (name, method))
            for other in others.split():
                self.assertEqual(isinstance(vars(thing)[other], property), other == "schema", (name, other))

    def test_errors(self):
        for kind, awaited in told(ERRORS):
            thing = vars(errors)[kind]
            self.assertEqual((thing.__module__, thing.__bases__), ("endchecks.errors", (errors.CheckError,)))
            self.assertEqual(arguments(thing), awaited, kind)

    def test_nothing_is_left_out(self):
        self.assertEqual([len(told(text)) for text in [*FUNCTIONS.values(), *[methods for _, methods, _ in CLASSES.values()], ERRORS]],
                         [9, 4, 6, 6, 6, 6, 5, 5, 11, 3, 3, 7, 4, 4, 2, 3, 3, 2, 10, 10, 15, 9, 11, 12, 8, 1, 18])


if __name__ == "__main__":
    unittest.main()
