"""What README.md shows is what the program answers."""

import doctest
import pathlib
import unittest

README = pathlib.Path(__file__).resolve().parent.parent / "README.md"


class ReadmeTest(unittest.TestCase):

    def test_examples(self):
        text = README.read_text("ascii").replace("```", "")
        examples = doctest.DocTestParser().get_doctest(text, {}, "README.md", str(README), 0)
        self.assertGreater(len(examples.examples), 15)
        told = []
        doctest.DocTestRunner(verbose=False).run(examples, out=told.append)
        self.assertEqual(told, [])


if __name__ == "__main__":
    unittest.main()
