import doctest
import pathlib
import re
import unittest

TEXT = (pathlib.Path(__file__).resolve().parent.parent / "README.md").read_text("utf-8")


class TestReadme(unittest.TestCase):
    def test_examples(self):
        # The fences around the examples are no part of what is printed.
        lines = "\n".join(re.findall(r"^```\n(>>> .*?)^```$", TEXT, re.DOTALL | re.MULTILINE))
        examples = doctest.DocTestParser().get_doctest(lines, {}, "README.md", "README.md", 0)
        told = []
        doctest.DocTestRunner().run(examples, out=told.append)
        self.assertLess(20, len(examples.examples))
        self.assertEqual(told, [])
