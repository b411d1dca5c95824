import unittest

from pergola import errors
from pergola.errors import BadForm, BadPaper, Broken, Missing, NotAllowed, PergolaError, TooLarge


class ErrorsTest(unittest.TestCase):
    def test_base_is_a_value_error(self):
        self.assertEqual(PergolaError.__bases__, (ValueError,))

    def test_each_class_stands_directly_under_the_base(self):
        for kind in [NotAllowed, TooLarge, Missing, BadPaper, BadForm, Broken]:
            self.assertEqual(kind.__bases__, (PergolaError,))
            self.assertEqual(kind.__module__, "pergola.errors")

    def test_attributes(self):
        self.assertEqual(BadForm(3).line, 3)
        self.assertEqual(BadForm(0).line, 0)
        self.assertEqual(Broken(17).number, 17)
        self.assertIs(type(BadForm(3).line), int)

    def test_attributes_when_caught(self):
        with self.assertRaises(PergolaError) as caught:
            raise BadForm(5)
        self.assertEqual(caught.exception.line, 5)
        with self.assertRaises(ValueError) as caught:
            raise Broken(6)
        self.assertEqual(caught.exception.number, 6)

    def test_no_other_errors(self):
        names = [name for name in dir(errors) if not name.startswith("_")]
        self.assertEqual(
            names, ["BadForm", "BadPaper", "Broken", "Missing", "NotAllowed", "PergolaError", "TooLarge"]
        )


if __name__ == "__main__":
    unittest.main()
