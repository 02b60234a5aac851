"""The examples in README.md."""

import doctest
import pathlib
import unittest

README = pathlib.Path(__file__).resolve().parent.parent / "README.md"


class ReadmeTest(unittest.TestCase):

    def test_examples(self):
        # Without the fences, which would be taken for output.
        text = README.read_text(encoding="utf-8").replace("```", "")
        test = doctest.DocTestParser().get_doctest(text, {}, "README", str(README), 0)
        self.assertGreater(len(test.examples), 20)
        told = []
        doctest.DocTestRunner(verbose=False).run(test, out=told.append)
        self.assertEqual("".join(told), "")


if __name__ == "__main__":
    unittest.main()
