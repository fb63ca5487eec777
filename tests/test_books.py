"""Point 100, and guarantee 16: books of deeds."""

import copy
import random
import unittest

from endchecks.books import Book
from endchecks.errors import BadStatement, CheckError, Full, NoDeed, NoPlace, Nothing, Twice, Unput, Wrong
from endchecks.schemas import Schema
from endchecks.scripts import Script
from tests.cases import RaisesCase
from tests.drawn import draw_lively, draw_modes, draw_schema, draw_script
from tests.samples import ODD, RULES, deep, tree

END = ("change", "task", [("none", "boss")], {"state": "done", "code": None})
CUT = ("change", "task", [("not", ("none", "boss"))], {"boss": None})
NEW = ("put", "top", "task", {"state": "open", "boss": ("new", "top"), "code": ("word", "x")})
TRY = ("try", [END, ("switch", ["whole"], "now")], ["whole"], [CUT])
NOW = {"code": "now", "some": "now", "whole": "now"}


def plan():
    return Script(tree(), [TRY, NEW])


def some_book():
    """A Book with three deeds, and one more that can be done again."""
    book = Book(plan(), {"whole": "late"})
    for deed in [("remove", (0, 0, 1)), ("mode", "code", "each"), ("insert", (1,), CUT), ("insert", (0, 1, 0), END)]:
        book.do(deed)
    book.back()
    return book


def told(book):
    """All that a Book tells."""
    every = [book.past(many) for many in range(len(book) + 1)]
    other = book.copied()
    ahead = []
    try:
        while True:
            ahead.append(other.again())
    except Nothing:
        pass
    return [book.script().body(), book.modes(), book.log(), len(book), [(script.body(), modes) for script, modes in every], ahead]


class BookCase(RaisesCase):
    def unchanged(self, book, kind, field, value, call, *args):
        """That a call raises an error and changes nothing."""
        before = told(book)
        if field is None:
            with self.assertRaises(kind) as caught:
                call(*args)
            self.assertIs(type(caught.exception), kind)
        else:
            self.refused(kind, field, value, call, *args)
        self.assertEqual(told(book), before)


class MadeTest(BookCase):
    def test_wrong(self):
        for thing in [*ODD, deep(30), tree(), plan().body(), Book(plan(), {})]:
            self.refused(Wrong, "place", 0, Book, thing, {})
            self.refused(Wrong, "place", 0, Book, thing, None)
        for thing in [thing for thing in [*ODD, deep(30)] if repr(thing) != "{}"]:
            self.refused(Wrong, "place", 1, Book, plan(), thing)
        for modes in [{"other": "now"}, {"whole": "soon"}, {"whole": None}, {"whole": ["now"]}, {None: "now"}, {("whole",): "now"}, [("whole", "now")]]:
            self.refused(Wrong, "place", 1, Book, plan(), modes)

    def test_at_first(self):
        for modes, awaited in [({}, NOW), ({"whole": "late"}, {**NOW, "whole": "late"}), ({"some": "each", "code": "late"}, {"code": "late", "some": "each", "whole": "now"})]:
            book = Book(plan(), modes)
            self.assertEqual([book.script(), book.modes(), book.log(), len(book)], [plan(), awaited, [], 0])
            self.assertEqual(list(book.modes()), sorted(awaited))
            self.assertEqual(book.past(0), (plan(), awaited))
        self.assertEqual(Book(Script(tree([]), []), {}).modes(), {})

    def test_what_is_passed_in_is_copied(self):
        modes = {"whole": "late"}
        book = Book(plan(), modes)
        modes["whole"] = "each"
        modes["some"] = "each"
        self.assertEqual(book.modes(), {**NOW, "whole": "late"})
        deed = ("insert", (0,), copy.deepcopy(TRY))
        book.do(deed)
        deed[2][1].append(CUT)
        deed[2][2].append("some")
        self.assertEqual(book.log(), [("insert", (0,), TRY)])
        self.assertEqual(book.script().statement_at((0,)), TRY)
        book.back()
        self.assertEqual(book.again(), ("insert", (0,), TRY))


class DoTest(BookCase):
    def test_deeds(self):
        book = Book(plan(), {})
        self.assertIsNone(book.do(("remove", (0, 0, 1))))
        self.assertEqual(book.script(), plan().without((0, 0, 1)))
        self.assertIsNone(book.do(("insert", (2,), CUT)))
        self.assertEqual(book.script(), Script(tree(), [("try", [END], ["whole"], [CUT]), NEW, CUT]))
        self.assertIsNone(book.do(("mode", "code", "each")))
        self.assertEqual(book.modes(), {"code": "each", "some": "now", "whole": "now"})
        self.assertEqual(book.log(), [("remove", (0, 0, 1)), ("insert", (2,), CUT), ("mode", "code", "each")])
        self.assertEqual(len(book), 3)
        book.do(("insert", (0, 1, 1), ("trial", [])))
        book.do(("insert", (0, 1, 1, 0, 0), ("trial", [END])))
        self.assertEqual(book.script().statement_at((0, 1, 1, 0, 0, 0, 0)), END)
        book.do(("remove", (0,)))
        self.assertEqual(book.script().body(), [NEW, CUT])

    def test_a_mode_that_the_rule_has(self):
        book = Book(plan(), {"whole": "late"})
        for deed in [("mode", "whole", "late"), ("mode", "some", "now"), ("mode", "whole", "late")]:
            book.do(deed)
        self.assertEqual([len(book), book.modes()], [3, {**NOW, "whole": "late"}])
        self.assertEqual(book.back(), ("mode", "whole", "late"))
        self.assertEqual([len(book), book.modes()], [2, {**NOW, "whole": "late"}])

    def test_modes_are_told_ascending(self):
        book = Book(plan(), {})
        for name in ["whole", "code", "some"]:
            book.do(("mode", name, "late"))
            self.assertEqual(list(book.modes()), ["code", "some", "whole"])
            self.assertEqual(list(book.past(len(book))[1]), ["code", "some", "whole"])

    def test_no_deed(self):
        book = some_book()
        wrong = [("insert",), ("insert", (0,)), ("insert", (0,), END, END), ["insert", (0,), END], ("insert", [0], END), ("insert", 0, END),
                 ("insert", (-1,), END), ("insert", (True,), END), ("insert", ("a",), END), ("insert", (None,), END), ("insert", "0", END),
                 ("insert", (0,), ()), ("insert", (0,), [*END]), ("insert", (0,), ("take", "other", [])), ("insert", (0,), ("trial", [END, ()])),
                 ("insert", (0,), ("switch", [], "now")), ("insert", (0,), ("try", [], ["code"], [])), ("insert", (0,), None),
                 ("remove",), ("remove", (0,), END), ["remove", (0,)], ("remove", [0]), ("remove", 0), ("remove", (0, -1, 0)), ("remove", (False,)),
                 ("remove", None), ("remove", ((0,),)), ("mode",), ("mode", "whole"), ("mode", "other", "now"), ("mode", "whole", "soon"),
                 ("mode", None, "now"), ("mode", ["whole"], "now"), ("mode", "whole", None), ("mode", "whole", ["now"]), ("mode", "whole", "now", "now"),
                 ["mode", "whole", "now"], ("modes", "whole", "now"), ("back",), (None, (0,)), ("take", "task", []), (("remove",), (0,)),
                 ("insert", (0,), ("take", "task", [("none", "state")]))]
        for thing in [*ODD, deep(30), *wrong, *[("remove", thing) for thing in ODD if thing != ()], *[("insert", (0,), thing) for thing in ODD],
                      *[("insert", thing, END) for thing in ODD if thing != ()], *[(thing, (0,), END) for thing in ODD],
                      *[("mode", thing, "now") for thing in ODD], *[("mode", "whole", thing) for thing in ODD]]:
            self.unchanged(book, NoDeed, None, None, book.do, thing)

    def test_what_the_script_raises(self):
        book = some_book()
        for address in [(), (9,), (0, 0), (0, 2, 0), (0, 0, 5), (1, 0, 0), (10 ** 30,)]:
            self.unchanged(book, NoPlace, "address", address, book.do, ("insert", address, CUT))
            self.unchanged(book, NoPlace, "address", address, book.do, ("remove", address))
        self.unchanged(book, NoPlace, "address", (3,), book.do, ("remove", (3,)))
        self.unchanged(book, Twice, "handle", "top", book.do, ("insert", (0,), NEW))
        self.unchanged(book, Unput, "handle", "low", book.do, ("insert", (0,), ("take", "task", [("row", "low")])))
        book.do(("insert", (3,), ("take", "task", [("row", "top")])))
        self.unchanged(book, Unput, "handle", "top", book.do, ("remove", (2,)))
        self.unchanged(book, BadStatement, "address", (0,), book.do, ("insert", (0,), ("take", "task", [("at", "boss", [])])))
        four = ("trial", [("trial", [("trial", [("trial", [END])])])])
        self.unchanged(book, BadStatement, "address", (0, 0, 0, 0, 0, 0, 0, 0, 0), book.do, ("insert", (0,), four))
        self.unchanged(book, Full, "limit", 12, book.do, ("insert", (0,), ("trial", [END] * 12)))
        puts = [("put", handle, "task", {"state": "open", "boss": None, "code": None}) for handle in ["a", "b", "c", "d"]]
        self.unchanged(book, Full, "limit", 4, book.do, ("insert", (0,), ("trial", puts)))

    def test_full(self):
        """With 60 deeds; ahead of what the script raises, and behind NoDeed."""
        book = Book(plan(), {})
        for at in range(60):
            self.assertEqual(len(book), at)
            book.do(("mode", "whole", ["each", "now", "late"][at % 3]))
        self.unchanged(book, Full, "limit", 60, book.do, ("mode", "whole", "now"))
        self.unchanged(book, Full, "limit", 60, book.do, ("insert", (0,), CUT))
        self.unchanged(book, Full, "limit", 60, book.do, ("insert", (9,), CUT))
        self.unchanged(book, Full, "limit", 60, book.do, ("remove", ()))
        self.unchanged(book, Full, "limit", 60, book.do, ("insert", (0,), NEW))
        for thing in [None, ("mode", "other", "now"), ("remove", (-1,))]:
            self.unchanged(book, NoDeed, None, None, book.do, thing)
        book.back()
        self.assertEqual(book.again(), ("mode", "whole", "late"))
        book.back()
        book.do(("remove", (0,)))
        self.assertEqual([len(book), book.script().body()], [60, [NEW]])


class BackTest(BookCase):
    def test_back_and_again(self):
        book = Book(plan(), {})
        deeds = [("remove", (0, 0, 1)), ("mode", "whole", "late"), ("insert", (1,), CUT)]
        scripts = [plan(), plan().without((0, 0, 1))]
        scripts += [scripts[1], scripts[1].put_in((1,), CUT)]
        for deed in deeds:
            book.do(deed)
        for _ in range(2):
            for many in [2, 1, 0]:
                self.assertEqual(book.back(), deeds[many])
                self.assertEqual([book.log(), book.script(), len(book)], [deeds[:many], scripts[many], many])
                self.assertEqual(book.modes(), {**NOW, "whole": "late" if many == 2 else "now"})
            self.unchanged(book, Nothing, None, None, book.back)
            for many in [1, 2, 3]:
                self.assertEqual(book.again(), deeds[many - 1])
                self.assertEqual([book.log(), book.script(), len(book)], [deeds[:many], scripts[many], many])
            self.unchanged(book, Nothing, None, None, book.again)

    def test_nothing(self):
        book = Book(plan(), {})
        self.unchanged(book, Nothing, None, None, book.back)
        self.unchanged(book, Nothing, None, None, book.again)
        book.do(("remove", (0,)))
        self.unchanged(book, Nothing, None, None, book.again)

    def test_a_deed_ends_what_can_be_done_again(self):
        book = some_book()
        book.back()
        self.assertEqual(told(book)[-1], [("insert", (1,), CUT), ("insert", (0, 1, 0), END)])
        book.again()
        book.do(("mode", "some", "now"))
        self.unchanged(book, Nothing, None, None, book.again)
        book.back()
        self.assertEqual(told(book)[-1], [("mode", "some", "now")])

    def test_a_refused_deed_does_not(self):
        book = some_book()
        for deed in [None, ("remove", (9,)), ("insert", (0,), NEW)]:
            with self.assertRaises(CheckError):
                book.do(deed)
        self.assertEqual(book.again(), ("insert", (0, 1, 0), END))

    def test_what_is_told_is_new(self):
        book = Book(plan(), {})
        book.do(("insert", (0,), TRY))
        before = told(book)
        for deed in [book.log()[0], book.back(), book.again(), book.back(), book.again()]:
            deed[2][1].append(CUT)
            deed[2][3].clear()
            self.assertEqual(told(book), before)
        book.log().clear()
        book.modes()["whole"] = "late"
        book.past(0)[1]["whole"] = "late"
        book.past(1)[1].clear()
        book.script().body().clear()
        self.assertEqual(told(book), before)


class PastTest(BookCase):
    def test_past(self):
        book = some_book()
        scripts = [plan(), plan().without((0, 0, 1))]
        scripts += [scripts[1], scripts[1].put_in((1,), CUT)]
        modes = [{**NOW, "whole": "late"}] * 2 + [{**NOW, "whole": "late", "code": "each"}] * 2
        for many in range(4):
            past = book.past(many)
            self.assertIsInstance(past, tuple)
            self.assertEqual(past, (scripts[many], modes[many]))
        self.assertEqual(book.past(3), (book.script(), book.modes()))
        for many in [4, 5, 61, 10 ** 30]:
            self.unchanged(book, Nothing, None, None, book.past, many)
        book.again()
        self.assertEqual(book.past(4)[0], scripts[3].put_in((0, 1, 0), END))
        book.back()
        book.back()
        self.unchanged(book, Nothing, None, None, book.past, 3)
        self.assertEqual(Book(plan(), {}).past(0), (plan(), NOW))
        with self.assertRaises(Nothing):
            Book(plan(), {}).past(1)


class CopiedTest(BookCase):
    def test_copies_go_on_by_themselves(self):
        book = some_book()
        other = book.copied()
        self.assertIsInstance(other, Book)
        self.assertEqual(told(other), told(book))
        self.assertEqual(other, book)
        before = told(book)
        other.do(("remove", (0,)))
        other.back()
        other.back()
        other.do(("mode", "some", "each"))
        self.assertEqual(told(book), before)
        again = told(other)
        book.again()
        book.do(("remove", (1,)))
        self.assertEqual(told(other), again)
        self.assertEqual(some_book().copied().again(), ("insert", (0, 1, 0), END))
        third = book.copied()
        third.again() if told(third)[-1] else third.back()
        self.assertNotEqual(third, book)


class EqualTest(BookCase):
    def test_equal(self):
        self.held(some_book() == some_book(), True)
        self.held(some_book() != some_book(), False)
        self.held(Book(plan(), {}) == Book(plan(), NOW), True)
        self.held(Book(plan(), {"whole": "late"}) == Book(plan(), {"whole": "late", "some": "now"}), True)
        # What can be done again is no part of it.
        book = some_book()
        other = some_book()
        other.again()
        self.held(book == other, False)
        other.back()
        self.held(book == other, True)
        other.do(("mode", "some", "now"))
        other.back()
        self.held(book == other, True)

    def test_unlike(self):
        book = some_book()
        others = [Book(plan(), {"whole": "late"}), Book(plan(), {}), Book(Script(tree(), [NEW]), {"whole": "late"})]
        for other in others:
            self.held(book == other, False)
            self.held(other == book, False)
        # The same log, other scripts or modes at first.
        one, two = Book(plan(), {"some": "late"}), Book(plan(), {"some": "each"})
        three, four = Book(Script(tree(), [CUT]), {}), Book(Script(tree(), [END]), {})
        for pair, deed in [((one, two), ("mode", "some", "now")), ((three, four), ("remove", (0,)))]:
            for other in pair:
                other.do(deed)
            self.assertEqual([pair[0].log(), pair[0].modes(), pair[0].script()], [pair[1].log(), pair[1].modes(), pair[1].script()])
            self.held(pair[0] == pair[1], False)
        self.held(Book(Script(tree(), []), {}) == Book(Script(tree(RULES[::-1]), []), {}), False)
        # The same script and modes, other logs.
        book, other = Book(plan(), {}), Book(plan(), {})
        book.do(("mode", "some", "now"))
        self.held(book == other, False)
        other.do(("mode", "code", "now"))
        self.held(book == other, False)

    def test_other_values(self):
        for thing in [*ODD, plan(), tree()]:
            self.held(some_book() == thing, False)
            self.held(thing == some_book(), False)

    def test_the_order_of_words(self):
        fields = {"m": ("mark", ["u", "v"])}
        one, other = [Script(Schema({"t": {"m": ("mark", words)}}, []), []) for words in [["u", "v"], ["v", "u"]]]
        self.assertEqual(fields["m"][1], ["u", "v"])
        self.held(Book(one, {}) == Book(other, {}), True)


class DrawnTest(BookCase):
    def deed(self, chance, book):
        """A deed that perhaps is none, or that the Book refuses."""
        script = book.script()
        other = draw_script(chance, script.schema, 2).body() or [None]
        places = script.addresses() + [(), (len(script.body()),), (0, 0, 0), (0, 1, 0), (9,)]
        deeds = [("insert", chance.choice(places), chance.choice(other)), ("remove", chance.choice(places)),
                 ("mode", chance.choice(script.schema.names() + ["other"]), chance.choice(["each", "now", "late"]))]
        return chance.choice(deeds)

    def test_the_deeds_of_the_log(self):
        """Guarantee 16, whatever is done, taken back and done again."""
        seen = {}
        for seed in range(120):
            chance = random.Random(seed)
            if seed % 2:
                schema, script, modes = draw_lively(chance)
            else:
                schema = draw_schema(chance, 2, 3, 3)
                script, modes = draw_script(chance, schema, 2), draw_modes(chance, schema)
            book = Book(script, modes)
            for _ in range(25):
                word = chance.choice(["do", "do", "do", "back", "again", "copied"])
                before = told(book)
                try:
                    if word == "copied":
                        book = book.copied()
                    else:
                        book.do(self.deed(chance, book)) if word == "do" else getattr(book, word)()
                except CheckError as error:
                    word = type(error).__name__
                    self.assertEqual(told(book), before)
                seen[word] = seen.get(word, 0) + 1
                self.follow(script, modes, book)
        self.assertLessEqual({"do", "back", "again", "NoDeed", "NoPlace", "Nothing", "Unput", "Twice"}, {*seen})

    def follow(self, script, modes, book):
        """That the script and the modes are what the deeds of the log lead to."""
        modes = {**{name: "now" for name in script.schema.names()}, **modes}
        other = Book(script, modes)
        for many, deed in enumerate(book.log()):
            self.assertEqual(book.past(many), (script, modes))
            if deed[0] == "mode":
                modes = {**modes, deed[1]: deed[2]}
            else:
                script = script.put_in(*deed[1:]) if deed[0] == "insert" else script.without(deed[1])
            other.do(deed)
        self.assertEqual([book.script(), book.modes()], [script, modes])
        self.assertEqual(book.past(len(book)), (script, modes))
        self.held(book == other, True)


if __name__ == "__main__":
    unittest.main()
