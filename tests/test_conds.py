"""Points 2 and 22: fields and plain tests."""

import copy
import unittest

from endchecks.conds import fields_in, fields_of, is_tests, meets
from tests.samples import FIELDS, ODD, ROW, deep, not_nested


class FieldsTest(unittest.TestCase):
    def check(self, thing, awaited):
        before = repr(thing)
        self.assertIs(fields_of(thing), awaited, thing)
        self.assertEqual(repr(thing), before)

    def test_fields(self):
        self.check(FIELDS, True)
        self.check({}, True)
        self.check({"a": ("mark", ["a"]), "b": ("mark", ["a", "b", "c", "d"])}, True)
        self.check({"a": ("link", "elsewhr"), "b": ("link", "a")}, True)
        self.check({"a": ("tag",), "b": ("tag",)}, True)
        self.check({name: sort for name, sort in zip("abcdef", [("tag",), ("mark", ["x"]), ("link", "y")] * 2)}, True)

    def test_too_many_of_a_sort(self):
        for sort in [("tag",), ("mark", ["x"]), ("link", "y")]:
            self.check({"a": sort, "b": sort, "c": sort}, False)

    def test_no_dicts(self):
        for thing in [*ODD, deep(29), [("a", ("tag",))], ("a", ("tag",))]:
            self.check(thing, thing == {} and isinstance(thing, dict))

    def test_wrong_keys(self):
        for key in [None, True, 1, "", "A", "a b", "abcdefghi", "+a", "a\n", ("a",), b"a", frozenset()]:
            self.check({key: ("tag",)}, False)
            self.check({"a": ("tag",), key: ("tag",)}, False)

    def test_wrong_fields(self):
        wrong = [
            ["tag"], ["link", "a"], ["mark", ["a"]], "tag", (), ("tag", None), ("tag", "a"), (("tag",),), (["tag"],),
            ("link",), ("link", None), ("link", "A"), ("link", ["a"]), ("link", ("a",)), ("link", "a", "b"),
            ("link", True), ("mark",), ("mark", []), ("mark", ["a", "b", "c", "d", "e"]), ("mark", ["a", "a"]),
            ("mark", ("a", "b")), ("mark", "ab"), ("mark", {"a": 1}), ("mark", {"a"}), ("mark", ["a", True]),
            ("mark", ["a", 1]), ("mark", ["a", None]), ("mark", ["a", ["b"]]), ("mark", ["a", "B"]),
            ("mark", ["a"], ["b"]), ("mark", ["a", "b\n"]), ("other",), ("other", "a"), (True, "a"), (None,),
            (["mark"], ["a"]), ("Mark", ["a"]), ("tag",) * 2,
        ]
        for field in [*wrong, *ODD]:
            self.check({"a": field}, False)
            self.check({"b": ("tag",), "a": field}, False)


class TestsTest(unittest.TestCase):
    def check(self, thing, awaited, fields=FIELDS):
        self.assertIs(is_tests(fields, thing), awaited, thing)

    def test_examples(self):
        self.check([("none", "state")], False)
        self.check([("is", "state", [])], False)
        self.check([("not", ("none", "boss"))], True)

    def test_tests(self):
        self.check([], True)
        self.check([("is", "state", ["open"])], True)
        self.check([("is", "state", ["open", "done", "open"])], True)
        self.check([("none", "boss"), ("none", "code"), ("none", "boss")], True)
        self.check([("none", "boss")] * 1000, True)

    def test_nots(self):
        for inner in [("none", "boss"), ("none", "code"), ("is", "state", ["done", "done"])]:
            for many in range(8):
                self.check([not_nested(inner, many)], many <= 4)
                self.check([("none", "boss"), not_nested(inner, many)], many <= 4)

    def test_wrong_at_any_depth(self):
        wrong = [
            ["none", "boss"], ["is", "state", ["open"]], "none", ("none",), ("none", "boss", "code"), ("none", "state"),
            ("none", "other"), ("none", None), ("none", True), ("none", ["boss"]), ("none", ("none", "boss")),
            ("has", "state", ["open"]), (None, "state", ["open"]), ("is",), ("is", "state"), ("is", "state", "open"), ("is", "state", ("open",)), ("is", "state", []),
            ("is", "state", ["shut"]), ("is", "state", ["open", "shut"]), ("is", "state", [True]),
            ("is", "state", ["open", None]), ("is", "state", [["open"]]), ("is", "boss", ["open"]),
            ("is", "code", ["open"]), ("is", "other", ["open"]), ("is", ["state"], ["open"]),
            ("is", "state", ["open"], ["done"]), ("is", "state", {"open": 1}), ("is", "state", {"open"}),
            ("not",), ("not", ("none", "boss"), ("none", "code")), ("not", [("none", "boss")]), ("not", None),
            ["not", ("none", "boss")], ("no", "boss"), (True, "boss"), (["none"], "boss"), ("None", "boss"),
            ("new", "boss", "a"), ("row", "a"), ("at", "boss", []), (), [], ("not", True),
        ]
        for test in [*wrong, *ODD]:
            for many in range(5):
                self.check([not_nested(test, many)], False)
                self.check([("none", "boss"), not_nested(test, many)], False)

    def test_no_lists(self):
        for thing in [*ODD, deep(29), (("none", "boss"),), ("none", "boss"), {"none": "boss"}]:
            self.check(thing, isinstance(thing, list) and thing == [])

    def test_no_fields(self):
        self.check([], True, {})
        self.check([("none", "boss")], False, {})

    def test_meets(self):
        self.assertIs(meets(ROW, [("is", "state", ["open"]), ("not", ("none", "code"))]), True)
        self.assertIs(meets(ROW, []), True)
        self.assertIs(meets(ROW, [("not", ("none", "boss"))]), False)
        self.assertIs(meets(ROW, [("is", "state", ["done"])]), False)
        self.assertIs(meets(ROW, [("is", "state", ["done", "open"])]), True)
        self.assertIs(meets(ROW, [("is", "state", ["open"]), ("none", "code")]), False)
        self.assertIs(meets(ROW, [("none", "code"), ("is", "state", ["open"])]), False)
        for many in range(5):
            self.assertIs(meets(ROW, [not_nested(("none", "boss"), many)]), many % 2 == 0)
            self.assertIs(meets(ROW, [not_nested(("is", "state", ["done"]), many)]), many % 2 == 1)

    def test_fields_in(self):
        self.assertEqual(fields_in([]), [])
        tests = [("none", "code"), not_nested(("none", "boss"), 4), ("is", "state", ["open"]), ("none", "code")]
        self.assertEqual(fields_in(tests), ["boss", "code", "state"])
        self.assertEqual(fields_in(tests[:1]), ["code"])

    def test_nothing_is_changed(self):
        fields, row = copy.deepcopy(FIELDS), copy.deepcopy(ROW)
        tests = [("is", "state", ["open", "done", "open"]), ("not", ("none", "boss"))]
        kept = copy.deepcopy(tests)
        self.assertIs(fields_of(fields), True)
        is_tests(fields, tests)
        meets(row, tests)
        fields_in(tests).append("x")
        self.assertEqual([fields, row, tests], [FIELDS, ROW, kept])
        self.assertEqual(fields_in(tests), ["boss", "state"])


if __name__ == "__main__":
    unittest.main()
