"""The examples of the document, as they stand in it."""

import doctest
import pathlib
import unittest

EXAMPLES = pathlib.Path(__file__).resolve().parent / "examples.txt"


class ExamplesTest(unittest.TestCase):
    def test_examples(self):
        text = EXAMPLES.read_text()
        test = doctest.DocTestParser().get_doctest(text, {}, "examples", str(EXAMPLES), 0)
        told = []
        results = doctest.DocTestRunner(verbose=False).run(test, out=told.append)
        self.assertEqual(results.failed, 0, "".join(told))
        self.assertEqual(results.attempted, text.count(">>> "))


if __name__ == "__main__":
    unittest.main()
