import random
import unittest

from pergola.errors import BadForm
from pergola.terms import depth_of, size_of
from pergola.texts import MAX_TERM_TEXT, read_term, term_text

SIGNS = (("s", 1), ("z", 0), ("pair", 2))
Z = ("z",)


def random_term(chooser, deep):
    kind = chooser.choice(["name", "z", "s", "pair", "pair"]) if deep else "name"
    if kind == "name":
        return chooser.choice(["x", "y", "abcdefgh", "zz"])
    if kind == "z":
        return Z
    return (kind, *[random_term(chooser, deep - 1) for _ in range(["z", "s", "pair"].index(kind))])


class TextsTest(unittest.TestCase):
    def reads(self, text, term):
        self.assertEqual(read_term(SIGNS, text), term)

    def bad(self, *texts):
        for text in texts:
            with self.assertRaises(BadForm, msg=repr(text)) as caught:
                read_term(SIGNS, text)
            self.assertEqual(caught.exception.line, 1)

    def test_example(self):
        self.reads(" pair( s(x) ,z )", ("pair", ("s", "x"), Z))
        self.assertEqual(term_text(("pair", ("s", "x"), Z)), "pair(s(x), z)")
        self.bad("s(z, z)")

    def test_constant(self):
        self.assertEqual(MAX_TERM_TEXT, 4000)

    def test_plain_texts(self):
        self.assertEqual(term_text("x"), "x")
        self.assertEqual(term_text(Z), "z")
        self.assertEqual(term_text(("s", ("s", "x"))), "s(s(x))")
        self.assertEqual(term_text(("pair", ("pair", "x", "y"), ("s", Z))), "pair(pair(x, y), s(z))")

    def test_plain_text_of_a_deep_term(self):
        term = "x"
        for _ in range(1500):
            term = ("s", term)
        self.assertEqual(term_text(term), "s(" * 1500 + "x" + ")" * 1500)

    def test_reads_each_kind(self):
        self.reads("x", "x")
        self.reads("z", Z)
        self.reads("s(z)", ("s", Z))
        self.reads("pair(pair(a,b),s(s(c)))", ("pair", ("pair", "a", "b"), ("s", ("s", "c"))))

    def test_spaces(self):
        told = ("pair", ("s", "x"), Z)
        parts = ["pair", "(", "s", "(", "x", ")", ",", "z", ")"]
        for place in range(len(parts) + 1):
            for many in [1, 2, 7]:
                self.reads("".join(parts[:place]) + " " * many + "".join(parts[place:]), told)
        self.reads("   ".join([""] + parts + [""]), told)
        self.bad("pai r(x, y)", "p air(x, y)", "pair(x y, z)", "s(x x)", "x y", "z z", "s (x) x", " x  y ")

    def test_words_that_touch(self):
        self.reads("zz", "zz")
        self.reads("s(sz)", ("s", "sz"))
        self.reads("pair(ss,pairs)", ("pair", "ss", "pairs"))

    def test_commas(self):
        self.bad("pair(x y)", "pair(x,,y)", "pair(,x,y)", "pair(x,y,)", "s(x,)", "s(,x)", ",x", "x,", ",", "x,y")
        self.bad("pair x, y")

    def test_parentheses(self):
        self.bad("s(x", "s(x))", "s((x))", "(x)", "(", ")", "()", "pair(x, y", "pair(x, y))", "x)", "(z)", "s)x(")
        self.bad("s x", "s x)", "pair(s(x, y)", "pair(s(x), y))", "s(x)(", "s(x)()", "s(x)s(x)")

    def test_number_of_parts(self):
        self.bad("z()", "z(x)", "s(z())", "z( )", "s", "s()", "s(x, y)", "pair", "pair()", "pair(x)", "pair(x, y, w)")
        self.bad("pair(s, x)", "pair(x, s)", "s(pair)")

    def test_names(self):
        self.bad("x()", "x(y)", "s(x(y))", "t(x)")
        for word in ["sign", "mark", "if", "not", "all", "some", "and", "or", "end"]:
            self.bad(word, f"s({word})")
        self.reads("abcdefgh", "abcdefgh")
        self.bad("abcdefghi", "s(abcdefghi)", "pair(x, abcdefghi)")

    def test_other_characters(self):
        self.bad("X", "s(X)", "x1", "1", "s(x1)", "x.", "s[x]", "s(x);", "x_y", "s{x}", "-x", "~", "!", "'x'")

    def test_newlines(self):
        self.bad("\n", "x\n", "\nx", "s(\nx)", "pair(x,\ny)", "s(x)\n")

    def test_nothing(self):
        self.bad("", " ", "     ")

    def test_length(self):
        self.reads("s(x)" + " " * 3996, ("s", "x"))
        self.bad("s(x)" + " " * 3997)
        self.bad(" " * 3997 + "s(x)", "x" * 4001, "s(" * 2000, "s(" * 5000)

    def test_size(self):
        bush = Z
        for _ in range(7):
            bush = ("pair", bush, bush)
        start = ("pair", bush, bush[1])
        self.assertEqual(size_of(start), 383)
        for many in [15, 16]:
            whole = ("pair", start, self.chain(many))
            self.assertEqual(size_of(whole), 385 + many)
            self.assertLess(depth_of(whole), 100)
            if many == 15:
                self.reads(term_text(whole), whole)
            else:
                self.bad(term_text(whole))

    def chain(self, many):
        term = "x"
        for _ in range(many):
            term = ("s", term)
        return term

    def test_depth(self):
        self.reads(term_text(self.chain(98)), self.chain(98))
        self.reads(term_text(self.chain(99)), self.chain(99))
        self.bad(term_text(self.chain(100)), term_text(self.chain(101)), "s(" * 1300 + "x" + ")" * 1300)

    def test_reading_gives_back(self):
        chooser = random.Random(5)
        for _ in range(500):
            term = random_term(chooser, 6)
            self.assertEqual(read_term(SIGNS, term_text(term)), term)

    def test_signs_matter(self):
        self.assertEqual(read_term((("x", 0),), "z"), "z")
        self.assertEqual(read_term((("x", 0),), "x"), ("x",))
        with self.assertRaises(BadForm):
            read_term((("x", 0),), "s(x)")


if __name__ == "__main__":
    unittest.main()
