import unittest

from pergola.books import check_book
from pergola.bookwriter import book_text, rule_text

Z = ("z",)


class BookWriterTest(unittest.TestCase):
    def test_example(self):
        rules = (
            ("even", Z, ()),
            ("odd", ("s", "x"), ((True, "even", "x"),)),
            ("even", "x", ((True, "odd", ("s", "x")),)),
        )
        book = ((("z", 0), ("s", 1)), (("even", 0), ("odd", 0)), rules)
        text = "sign z 0\nsign s 1\nmark even 0\nmark odd 0\neven(z)\nodd(s(x)) if even(x)\neven(x) if odd(s(x))\n"
        self.assertEqual(book_text(book), text)

    def test_no_rules(self):
        self.assertEqual(book_text(((("z", 0),), (("m", 2),), ())), "sign z 0\nmark m 2\n")

    def test_all_at_once(self):
        body = (
            (True, "low", ("pair", "x", ("pair", "u", Z))),
            (False, "mid", ("s", ("s", "y"))),
            (False, "low", Z),
            (True, "top", "u"),
        )
        rules = (("top", ("pair", "x", "y"), body), ("low", "x", ()), ("low", "x", ()))
        book = ((("pair", 2), ("z", 0), ("s", 1)), (("top", 2), ("low", 0), ("mid", 1)), rules)
        self.assertIsNone(check_book(book))
        lines = [
            "sign pair 2",
            "sign z 0",
            "sign s 1",
            "mark top 2",
            "mark low 0",
            "mark mid 1",
            "top(pair(x, y)) if low(pair(x, pair(u, z))), not mid(s(s(y))), not low(z), top(u)",
            "low(x)",
            "low(x)",
        ]
        self.assertEqual(book_text(book), "".join(line + "\n" for line in lines))

    def test_rules_without_a_body(self):
        self.assertEqual(rule_text(("even", "x", ())), "even(x)")
        self.assertEqual(rule_text(("even", Z, ())), "even(z)")
        self.assertEqual(rule_text(("even", ("s", "x"), ())), "even(s(x))")
        self.assertEqual(rule_text(("even", ("pair", "x", "y"), ())), "even(pair(x, y))")

    def test_rules_with_a_body(self):
        self.assertEqual(rule_text(("a", "x", ((True, "b", "x"),))), "a(x) if b(x)")
        self.assertEqual(rule_text(("a", "x", ((False, "b", "x"),))), "a(x) if not b(x)")
        body = ((False, "b", "x"), (False, "c", Z))
        self.assertEqual(rule_text(("a", "x", body)), "a(x) if not b(x), not c(z)")


if __name__ == "__main__":
    unittest.main()
