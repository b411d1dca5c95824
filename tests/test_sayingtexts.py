import random
import unittest

import chance
from pergola.errors import BadForm
from pergola.sayings import check_saying
from pergola.sayingtexts import MAX_GROUPS, MAX_NEST, MAX_SAYING, MAX_SAYING_TEXT, read_saying, saying_text

SIGNS = (("z", 0), ("s", 1), ("pair", 2))
MARKS = (("even", 0), ("odd", 0), ("no", 1))
A = ("at", "even", "x")
B = ("at", "odd", ("s", "y"))
C = ("at", "no", ("pair", ("z",), "x"))


def read(text):
    return read_saying(SIGNS, MARKS, text)


class TextTest(unittest.TestCase):
    def told(self, saying, text):
        self.assertEqual(saying_text(saying), text)
        self.assertEqual(read(text), saying)

    def test_examples(self):
        saying = ("all", "x", ("or", ("at", "even", "x"), ("at", "odd", ("s", ("s", "x")))))
        self.assertEqual(read("all x (even(x) or odd(s(s(x))))"), saying)
        saying = ("not", ("and", ("at", "even", "x"), ("not", ("at", "odd", "x"))))
        self.told(saying, "not (even(x) and not odd(x))")

    def test_each_kind(self):
        self.told(A, "even(x)")
        self.told(C, "no(pair(z, x))")
        self.told(("not", A), "not even(x)")
        self.told(("not", ("not", A)), "not not even(x)")
        self.told(("and", A, B), "even(x) and odd(s(y))")
        self.told(("or", A, B), "even(x) or odd(s(y))")
        self.told(("all", "x", A), "all x even(x)")
        self.told(("some", "even", A), "some even even(x)")
        self.told(("all", "x", ("some", "y", ("not", B))), "all x some y not odd(s(y))")

    def test_kinds_within_kinds(self):
        conj, disj = ("and", A, B), ("or", A, B)
        a, b = "even(x)", "odd(s(y))"
        self.told(("not", conj), f"not ({a} and {b})")
        self.told(("not", disj), f"not ({a} or {b})")
        self.told(("all", "v", conj), f"all v ({a} and {b})")
        self.told(("some", "v", disj), f"some v ({a} or {b})")
        self.told(("and", conj, A), f"{a} and {b} and {a}")
        self.told(("and", A, conj), f"{a} and ({a} and {b})")
        self.told(("and", disj, A), f"({a} or {b}) and {a}")
        self.told(("and", A, disj), f"{a} and ({a} or {b})")
        self.told(("or", disj, A), f"{a} or {b} or {a}")
        self.told(("or", A, disj), f"{a} or ({a} or {b})")
        self.told(("or", conj, A), f"{a} and {b} or {a}")
        self.told(("or", A, conj), f"{a} or {a} and {b}")
        self.told(("or", conj, conj), f"{a} and {b} or {a} and {b}")
        self.told(("and", ("not", A), ("all", "x", B)), f"not {a} and all x {b}")
        self.told(("and", ("all", "x", A), B), f"all x {a} and {b}")
        self.told(("all", "x", ("not", ("or", ("not", conj), disj))), f"all x not (not ({a} and {b}) or ({a} or {b}))")

    def test_all_kinds_within_all_kinds(self):
        low = [A]
        for _ in range(2):
            high = [A, *[("not", s) for s in low], *[("all", "x", s) for s in low], *[("some", "v", s) for s in low]]
            low = [*high, *[(kind, s, t) for kind in ("and", "or") for s in low for t in low]]
        self.assertEqual(len(low), 1 + 3 * 6 + 2 * 36)
        for inner in low:
            for saying in [("not", inner), ("all", "y", inner), ("and", inner, B), ("and", B, inner), ("or", inner, B), ("or", B, inner)]:
                self.assertEqual(read(saying_text(saying)), saying)

    def test_left_to_right(self):
        a, b, c = "even(x)", "odd(s(y))", "no(pair(z, x))"
        self.told(("or", ("or", A, B), C), f"{a} or {b} or {c}")
        self.told(("and", ("and", A, B), C), f"{a} and {b} and {c}")
        self.told(("or", ("or", A, ("and", ("and", B, C), A)), B), f"{a} or {b} and {c} and {a} or {b}")

    def test_parentheses_that_are_not_needed(self):
        for text in ["(even(x))", "((even(x)))", " ( even ( x ) ) ", "( ((( even(x)) ) ))"]:
            self.assertEqual(read(text), A)
        self.assertEqual(read("(even(x) or odd(s(y))) or no(pair(z, x))"), ("or", ("or", A, B), C))
        self.assertEqual(read("(even(x) and odd(s(y))) or (no(pair(z, x)))"), ("or", ("and", A, B), C))
        self.assertEqual(read("not (even(x))"), ("not", A))
        self.assertEqual(read("all x (all y (even(x)))"), ("all", "x", ("all", "y", A)))

    def test_spaces(self):
        self.assertEqual(read("  all   x(even(x)or odd(s(y)) )  "), ("all", "x", ("or", A, B)))
        self.assertEqual(read("even(x)and not(odd(s(y)))or(even(x))"), ("or", ("and", A, ("not", B)), A))
        self.assertEqual(read("no( pair(z ,x ) )"), C)
        for text in ["notodd(x)", "allx even(x)", "all xeven(x)", "even (x) andodd(x)", "even(x) orodd(x)", "even(x)\n", "\neven(x)",
                     "even(x) and\nodd(x)"]:
            with self.assertRaises(BadForm):
                read(text)

    def test_chance(self):
        chooser = random.Random(82)
        book = (SIGNS, MARKS, ())
        for _ in range(1500):
            saying = chance.some_saying(chooser, book, ["x", "y", "even"], chooser.randint(1, 30), 4)
            text = saying_text(saying)
            self.assertEqual(read(text), saying)
            loose = text.replace(" ", "  ").replace("(", " ( ").replace(")", " )")
            self.assertEqual(read(loose), saying)
            # No pair of parentheses could be left out.
            for at, char in enumerate(text):
                if char == "(" and (at == 0 or text[at - 1] in " ("):
                    depth = 0
                    for end in range(at, len(text)):
                        depth += (text[end] == "(") - (text[end] == ")")
                        if depth == 0:
                            break
                    without = text[:at] + text[at + 1:end] + text[end + 1:]
                    self.assertNotEqual(read(without), saying)


class BoundTest(unittest.TestCase):
    def bad(self, text):
        with self.assertRaises(BadForm) as caught:
            read(text)
        self.assertEqual(caught.exception.line, 1)

    def test_constants(self):
        self.assertEqual((MAX_SAYING_TEXT, MAX_SAYING, MAX_NEST, MAX_GROUPS), (6000, 60, 4, 40))

    def test_groups(self):
        for many in [1, 39, 40]:
            self.assertEqual(read("(" * many + "even(x)" + ")" * many), A)
        self.bad("(" * 41 + "even(x)" + ")" * 41)
        self.bad("(" * 2000 + "even(x)" + ")" * 2000)
        self.bad("(" * 5000)
        # They count within one another only, also between other parts.
        group = "(" * 40 + "even(x)" + ")" * 40
        self.assertEqual(read(f"{group} and {group} or {group}"), ("or", ("and", A, A), A))
        self.bad(f"{group} and ({group})")
        inner = "(" * 20 + "even(x)" + ")" * 20
        mixed = "(" * 20 + f"not {inner} and even(x)" + ")" * 20
        self.assertEqual(read(mixed), ("and", ("not", A), A))
        self.bad(f"({mixed})")
        self.assertEqual(read("(" * 20 + f"not ({inner[1:-1]}) and even(x)" + ")" * 20), ("and", ("not", A), A))

    def test_nodes(self):
        for kind in ["and", "or"]:
            many = f" {kind} ".join(["even(x)"] * 30)
            self.assertEqual(check_saying((SIGNS, MARKS, ()), read(many)), None)
            self.assertEqual(read(f"not ({many})")[0], "not")
            self.bad(f"not not ({many})")
            self.bad(f"{many} {kind} even(x)")
            self.bad(" and ".join(["even(x)"] * 500))
        for many in [58, 59]:
            saying = read("not " * many + "even(x)")
            self.assertEqual(saying_text(saying), "not " * many + "even(x)")
        self.bad("not " * 60 + "even(x)")
        self.bad("not " * 1400 + "even(x)")

    def test_quantifiers(self):
        self.assertEqual(read("all x some y all u some v even(x)")[0], "all")
        self.bad("all x some y all u some v all w even(x)")
        self.bad("all x some y not (all u (even(x) and some v some w even(x)))")
        wide = "all x some y (all u some v even(x) and all u some v even(x)) and all x even(x)"
        self.assertEqual(read(wide)[0], "and")
        self.bad("all x " * 400 + "even(x)")

    def test_terms(self):
        self.assertEqual(read("even(s(s(s(s(s(x))))))")[1], "even")
        self.bad("even(s(s(s(s(s(s(x)))))))")
        self.assertEqual(read("even(pair(pair(x, y), s(x)))")[1], "even")
        self.bad("even(pair(pair(x, y), s(s(x))))")
        self.bad("even(" + "s(" * 1000 + "x" + ")" * 1001)

    def test_length(self):
        text = "even(x)"
        self.assertEqual(read(text + " " * (6000 - len(text))), A)
        self.bad(text + " " * (6001 - len(text)))

    def test_grammar(self):
        for text in ["", " ", "even", "even(", "even()", "even(x", "even x", "(even(x)", "even(x))", "()", "(", ")", "not", "not not", "all", "all x",
                     "some", "all x y even(x)", "all (x) even(x)", "all x, even(x)", "and", "even(x) and", "and even(x)", "even(x) even(x)",
                     "even(x) and and even(x)", "even(x) or", "or even(x)", "even(x) and or even(x)", "even(x) or not", "x", "x(x)", "odd", "other(x)",
                     "even(x, y)", "even(s)", "even(s(x, y))", "even(pair(x))", "even(z())", "even(z(x))", "even(even(x))", "even((x))", "even(not)",
                     "not(x)", "if even(x)", "even(x) if odd(x)", "even(x), odd(x)", "even(x).", "even(X)", "Even(x)", "even(x1)", "1", "even(x) & odd(x)",
                     "all z even(x)", "all s even(x)", "all not even(x)", "all and even(x)", "some abcdefghi even(x)", "even(abcdefghi)", "even(if)",
                     "end", "even(x) end", "(even(x) or) odd(x)", "not ()", "all x ()", "some x (even(x)", "even[x]", "even(x) even"]:
            self.bad(text)

    def test_names(self):
        self.assertEqual(read("all even even(even)"), ("all", "even", ("at", "even", "even")))
        self.assertEqual(read("some abcdefgh even(odd)"), ("some", "abcdefgh", ("at", "even", "odd")))
        self.assertEqual(read_saying((("even", 0),), (("m", 0),), "m(even)"), ("at", "m", ("even",)))


if __name__ == "__main__":
    unittest.main()
