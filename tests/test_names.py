"""Point 21: integers, names, ids, tag names, modes."""

import unittest

from endchecks.names import (
    is_id, is_integer, is_mode, is_name, is_new_id, is_tag_name, less, new_id, own_name)
from tests.samples import ODD, deep

QUESTIONS = [is_integer, is_name, is_id, is_new_id, is_tag_name, is_mode]
NAMES = ["a", "z", "ab", "abcdefgh", "zzzzzzzz", "each", "now", "late"]


class NamesTest(unittest.TestCase):
    def held(self, question, thing):
        answer = question(thing)
        self.assertIn(answer, [True, False])
        self.assertIsInstance(answer, bool, (question, thing))
        return answer

    def test_integers(self):
        for thing in [0, 1, -1, 10 ** 40, -(10 ** 40)]:
            self.assertTrue(self.held(is_integer, thing))
        for thing in [True, False, None, "1", b"1", [1], (1,), {1: 1}, {1}]:
            self.assertFalse(self.held(is_integer, thing))

    def test_names(self):
        for thing in NAMES:
            self.assertTrue(self.held(is_name, thing))
            self.assertTrue(self.held(is_id, thing))
            self.assertTrue(self.held(is_tag_name, thing))
            self.assertFalse(self.held(is_new_id, thing))
            self.assertFalse(self.held(is_integer, thing))

    def test_odd_values(self):
        for thing in [*ODD, deep(29), ["a"] * 4900]:
            for question in QUESTIONS[1:]:
                self.assertFalse(self.held(question, thing), (question, thing))

    def test_other_characters(self):
        for letter in [chr(code) for code in range(32, 127) if not chr(code).islower()] + ["\n", "\u00e9", "\u0430"]:
            for thing in [letter, "a" + letter, letter + "a", "a" + letter + "b"]:
                self.assertFalse(self.held(is_name, thing), thing)

    def test_ids(self):
        for thing in ["+a", "+abcdefgh", "+z"]:
            self.assertTrue(self.held(is_id, thing))
            self.assertTrue(self.held(is_new_id, thing))
            self.assertFalse(self.held(is_name, thing))
            self.assertFalse(self.held(is_tag_name, thing))
        for thing in ["+", "++a", "+abcdefghi", "+A", "+a\n", "+a+", " +a", "+a.b", "a+"]:
            self.assertFalse(self.held(is_id, thing))
            self.assertFalse(self.held(is_new_id, thing))

    def test_tag_names(self):
        for thing in ["+a.b", "+abcdefgh.abcdefgh"]:
            self.assertTrue(self.held(is_tag_name, thing))
            self.assertFalse(self.held(is_id, thing))
            self.assertFalse(self.held(is_name, thing))
        wrong = ["a.b", "+a", "+a.", "+.a", "+.", "+a..b", "+a.b.c", "+abcdefghi.a", "+a.abcdefghi", "+a.b\n", "+a.B",
                 "++a.b", "+a.+b", "+a. b"]
        for thing in wrong:
            self.assertFalse(self.held(is_tag_name, thing), thing)

    def test_modes(self):
        for thing in ["each", "now", "late"]:
            self.assertTrue(self.held(is_mode, thing))
        for thing in ["Each", "now\n", "a", "", "lat", "latee", ["now"], ("now",)]:
            self.assertFalse(self.held(is_mode, thing))

    def test_less(self):
        modes = ["each", "now", "late"]
        for one in range(3):
            for other in range(3):
                self.assertIs(less(modes[one], modes[other]), one < other)

    def test_made(self):
        self.assertEqual(new_id("top"), "+top")
        self.assertEqual(own_name("top", "code"), "+top.code")
        self.assertTrue(is_new_id(new_id("abcdefgh")))
        self.assertTrue(is_tag_name(own_name("abcdefgh", "abcdefgh")))


if __name__ == "__main__":
    unittest.main()
