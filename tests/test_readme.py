import doctest
import pathlib
import unittest

README = pathlib.Path(__file__).resolve().parent.parent / "README.md"


class ReadmeTest(unittest.TestCase):
    def test_examples(self):
        text = README.read_text(encoding="ascii").replace("```", "")
        examples = doctest.DocTestParser().get_doctest(text, {}, "README.md", "README.md", 0)
        self.assertEqual(doctest.DocTestRunner().run(examples).failed, 0)
        self.assertTrue(examples.examples)


if __name__ == "__main__":
    unittest.main()
