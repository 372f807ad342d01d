"""The examples of README.md."""

import doctest
import pathlib
import unittest

README = pathlib.Path(__file__).resolve().parent.parent / "README.md"


class ReadmeTest(unittest.TestCase):
    def test_examples(self):
        # The line behind an example would count as its output.
        text = README.read_text("utf-8").replace("```", "")
        examples = doctest.DocTestParser().get_doctest(text, {}, "README.md", str(README), 0)
        found = doctest.DocTestRunner().run(examples)
        self.assertEqual(found.failed, 0)
        self.assertGreater(found.attempted, 20)


if __name__ == "__main__":
    unittest.main()
