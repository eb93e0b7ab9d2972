"""The examples of README.md."""

import doctest
import pathlib
import unittest

README = pathlib.Path(__file__).resolve().parent.parent / "README.md"


class Readme(unittest.TestCase):
    def test_examples(self):
        # doctest would take the fence behind an example for a part of its result.
        text = README.read_text().replace("```", "")
        examples = doctest.DocTestParser().get_doctest(text, {}, "README.md", None, 0)
        self.assertGreater(len(examples.examples), 5)
        self.assertEqual(doctest.DocTestRunner().run(examples).failed, 0)


if __name__ == "__main__":
    unittest.main()
