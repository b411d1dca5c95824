import random
import unittest

import chance
from pergola.bookreader import MAX_BOOK_TEXT, read_book, read_rule
from pergola.books import check_book
from pergola.bookwriter import book_text, rule_text
from pergola.errors import BadForm

SIGNS = (("z", 0), ("s", 1), ("pair", 2))
MARKS = (("low", 0), ("mid", 1), ("top", 2))
START = "sign z 0\nsign s 1\nsign pair 2\nmark low 0\nmark mid 1\nmark top 2\n"
Z = ("z",)


class ReaderTest(unittest.TestCase):
    def bad(self, text, line):
        with self.assertRaises(BadForm) as caught:
            read_book(text)
        self.assertEqual(caught.exception.line, line, text)

    def bad_line(self, line, start=START):
        """A line that is bad behind the start of a book, whatever comes then."""
        number = start.count("\n") + 1
        for rest in ["", "\n", "\nlow(x)\n", "\nno form at all\n", "\n\n\n"]:
            self.bad(start + line + rest, number)


class BooksTest(ReaderTest):
    def test_constant(self):
        self.assertEqual(MAX_BOOK_TEXT, 6000)

    def test_example(self):
        text = "sign z 0\nsign s 1\nmark even 0\nmark odd 0\neven(z)\nodd(s(x)) if even(x)\neven(x) if odd(s(x))\n"
        rules = (
            ("even", Z, ()),
            ("odd", ("s", "x"), ((True, "even", "x"),)),
            ("even", "x", ((True, "odd", ("s", "x")),)),
        )
        self.assertEqual(read_book(text), ((("z", 0), ("s", 1)), (("even", 0), ("odd", 0)), rules))
        self.assertEqual(book_text(read_book(text.replace(" if", "  if "))), text)
        self.bad("sign z 0\nmark even 0\neven(z) if not even(z)\n", 3)

    def test_what_was_written(self):
        chooser = random.Random(1)
        for _ in range(300):
            book = chance.some_book(chooser, 6, 24)
            text = book_text(book)
            self.assertEqual(read_book(text), book)
            self.assertEqual(read_book(text[:-1]), book)
            for rule in book[2]:
                self.assertEqual(read_rule(book[0], book[1], rule_text(rule)), rule)

    def test_kinds_of_values(self):
        signs, marks, rules = read_book(START + "top(s(x)) if low(x), not mid(u)\n")
        self.assertEqual((signs, marks), (SIGNS, MARKS))
        self.assertEqual(rules, (("top", ("s", "x"), ((True, "low", "x"), (False, "mid", "u"))),))
        self.assertIs(type(signs[1][1]), int)
        self.assertIs(rules[0][2][0][0], True)
        self.assertIs(rules[0][2][1][0], False)

    def test_spaces(self):
        text = (
            "  sign   z0  \n\n   \nsign s 1\nsign pair2\nmark low0\n mark  mid   1\nmark top 2\n \n"
            "  top ( pair( x ,y ) )  if  not  low(x) ,mid ( s( u ) )\nlow(z)if low(s(z)),low(z)\n"
        )
        rules = (
            ("top", ("pair", "x", "y"), ((False, "low", "x"), (True, "mid", ("s", "u")))),
            ("low", Z, ((True, "low", ("s", Z)), (True, "low", Z))),
        )
        self.assertEqual(read_book(text), (SIGNS, MARKS, rules))

    def test_last_newline(self):
        for start in ["sign z 0\nmark m 0", "sign z 0\nmark m 0\nm(x)", "sign z 0\nmark m 0\nm(x)\n  ", "\nsign z 0\n\nmark m 0"]:
            self.assertEqual(read_book(start), read_book(start + "\n"))

    def test_books_at_their_bounds(self):
        signs = "sign a 2\nsign b 1\nsign c 2\nsign d 0\n"
        marks = "".join(f"mark m{letter} {at % 3}\n" for at, letter in enumerate("abcdef"))
        rules = "ma(a(x, y)) if ma(x), ma(y), ma(a(b(x), a(d, y))), ma(x)\n" * 24
        book = read_book(signs + marks + rules)
        self.assertIsNone(check_book(book))
        self.assertEqual((len(book[0]), len(book[1]), len(book[2])), (4, 6, 24))
        self.bad(signs + "sign e 0\n", 5)
        self.bad(signs + marks + "mark mg 0\n", 11)
        self.bad(signs + marks + rules + "\nma(x)\n", 36)

    def test_lengths(self):
        text = "sign z 0\nmark m 0\nm(x)\n"
        long = text + " " * (6000 - len(text))
        self.assertEqual(read_book(long), read_book(text))
        self.bad(long + " ", 0)
        self.bad(long + "\n", 0)
        self.bad("?" + long[:-1], 1)
        self.bad("?" + long, 0)

    def test_no_mark(self):
        for text, line in [
            ("", 1),
            ("\n", 2),
            ("\n\n", 3),
            ("  ", 2),
            ("sign z 0", 2),
            ("sign z 0\n", 2),
            ("sign z 0\n\n", 3),
            ("sign z 0\n  ", 3),
            ("\nsign z 1\n\nsign s 1\n", 5),
            ("sign a 1\nsign b 1\nsign c 1\nsign d 1\n", 5),
        ]:
            self.bad(text, line)


class BadLinesTest(ReaderTest):
    def test_no_form(self):
        for line in [
            "?",
            "low",
            "low z",
            "sign",
            "sign q",
            "mark q",
            "low()",
            "low(z",
            "low(z))",
            "low(z) low(z)",
            "low(z),",
            "low(z) if",
            "low(z) if if",
            "low(z) if low",
            "low(z) if low(z),",
            "low(z) if ,low(z)",
            "low(z) if low(z) low(z)",
            "low(z) if low(z), if low(z)",
            "low(z) iflow(z)",
            "low(z) if notlow(z)",
            "top(z) if not not low(z)",
            "not low(z)",
            "(z)",
            "low(z) 0",
            "low 0(z)",
            "low(s z)",
            "low(s(z)",
            "low(s(z, z))",
            "low(pair(z))",
            "low(pair(x y))",
            "low(z())",
            "Low(z)",
            "low[z]",
            "low(z).",
            "\tlow(z)",
            "low(z)\r",
            "l ow(z)",
        ]:
            self.bad_line(line)

    def test_bad_signs(self):
        start = "sign z 0\nsign s 1\n"
        for line in [
            "sign",
            "sign t",
            "sign t 3",
            "sign t 00",
            "sign t 1 0",
            "sign t 1 t",
            "sign 1 t",
            "sign t one",
            "sign t -1",
            "sign t(1)",
            "signt 1",
            "sign tu v 1",
            "sign T 1",
            "sign abcdefghi 1",
            "sign sign 1",
            "sign end 0",
            "sign z 0",
            "sign z 1",
            "sign s 1",
            "sing t 1",
        ]:
            self.bad_line(line, start)
        self.assertEqual(read_book(start + "sign t1\nmark m0\n")[0][2], ("t", 1))

    def test_bad_marks(self):
        start = "sign z 0\nsign s 1\nmark m 0\n"
        for line in [
            "mark",
            "mark n",
            "mark n 3",
            "mark n 00",
            "mark n 0 0",
            "mark 0 n",
            "markn 0",
            "mark N 0",
            "mark abcdefghi 1",
            "mark mark 1",
            "mark if 0",
            "mark m 0",
            "mark m 1",
            "mark z 0",
            "mark s 2",
        ]:
            self.bad_line(line, start)
        self.assertEqual(read_book(start + "mark n 2\n")[1], (("m", 0), ("n", 2)))

    def test_wrong_places(self):
        self.bad_line("sign t 1", "sign z 0\nmark m 0\n")
        self.bad_line("sign t 1", "sign z 0\nmark m 0\nm(x)\n")
        self.bad_line("mark n 0", "sign z 0\nmark m 0\nm(x)\n")
        self.bad_line("m(x)", "sign z 0\n")
        self.bad_line("m(x)", "")
        self.bad_line("mark m 0", "")

    def test_no_sign_of_the_arity_0(self):
        self.bad_line("mark m 0", "sign s 1\n")
        self.bad_line("mark m 0", "\nsign s 1\nsign pair 2\n\n")
        four = "sign a 1\nsign b 1\nsign c 2\nsign d 2\n"
        self.bad_line("mark m 0", four)
        self.bad_line("sign e 0", four)
        self.assertEqual(read_book(four.replace("d 2", "d 0") + "mark m 0\n")[1], (("m", 0),))

    def test_rules_that_are_not_allowed(self):
        for line in [
            "lows(x)",
            "z(x)",
            "if(x)",
            "low(if)",
            "low(abcdefghi)",
            "low(s(s(x)))",
            "low(s(z))",
            "low(pair(x, x))",
            "low(x) if lows(x)",
            "low(x) if mid(x)",
            "low(x) if not low(x)",
            "mid(x) if not mid(x)",
            "top(x) if not top(x)",
            "mid(x) if not top(x)",
            "low(x) if low(u), low(v)",
            "low(z) if low(pair(u, v))",
            "low(x) if low(x), low(x), low(x), low(x), low(x)",
            "low(x) if low(s(s(s(s(s(s(x)))))))",
            "low(x) if low(end)",
            "low(x) if low(" + "s(" * 900 + "x" + ")" * 901,
            "low(" + "s(" * 900 + "x" + ")" * 901,
        ]:
            self.bad_line(line)
        for line in [
            "low(z) if low(s(s(s(s(s(x))))))",
            "top(x) if not mid(x), not low(u), top(u), top(x)",
            "low(low) if low(low)",
        ]:
            self.assertEqual(book_text(read_book(START + line)), START + line + "\n")

    def test_first_bad_line(self):
        self.bad("sign z 0\nmark m 0\nm(x)\nm(y\nm(\n", 4)
        self.bad("\n\nsign z 0\nsign z 0\nmark z 0\n", 4)
        self.bad("sign s 1\nmark m 0\nsign z 0\n", 2)


class RulesTest(unittest.TestCase):
    def bad(self, text):
        with self.assertRaises(BadForm) as caught:
            read_rule(SIGNS, MARKS, text)
        self.assertEqual(caught.exception.line, 1)

    def test_rules(self):
        self.assertEqual(read_rule(SIGNS, MARKS, "low(x)"), ("low", "x", ()))
        self.assertEqual(read_rule(SIGNS, MARKS, " low ( z ) "), ("low", Z, ()))
        rule = ("top", ("pair", "x", "y"), ((False, "low", "x"), (True, "top", ("s", "u"))))
        self.assertEqual(read_rule(SIGNS, MARKS, "top(pair(x,y)) if not low(x),top(s(u))"), rule)

    def test_bad_rules(self):
        for text in [
            "",
            " ",
            "\n",
            "low(x)\n",
            "\nlow(x)",
            "low(x) if\nlow(x)",
            "low(x)\nlow(x)",
            "sign q 0",
            "mark q 0",
            "low",
            "low(x) if",
            "low(x) low(x)",
            "lows(x)",
            "low(s(z))",
            "low(pair(x, x))",
            "low(x) if not low(x)",
            "low(x) if mid(x)",
            "low(x) if low(u), low(v)",
            "low(x) if low(s(s(s(s(s(s(x)))))))",
            "low(x) if low(x), low(x), low(x), low(x), low(x)",
        ]:
            self.bad(text)

    def test_lengths(self):
        text = "low(x)" + " " * 5994
        self.assertEqual(read_rule(SIGNS, MARKS, text), ("low", "x", ()))
        self.bad(text + " ")

    def test_marks_and_signs_that_are_meant(self):
        self.assertEqual(read_rule((("x", 0),), (("m", 0),), "m(x)"), ("m", ("x",), ()))
        self.assertEqual(read_rule((("y", 0),), (("m", 0),), "m(x)"), ("m", "x", ()))


if __name__ == "__main__":
    unittest.main()
