import unittest

from pergola.errors import NotAllowed
from pergola.terms import (
    MAX_ARITY,
    MAX_DEEP,
    MAX_SIGNS,
    MAX_TREE,
    MAX_WORD,
    RESERVED,
    arity_of,
    check_signs,
    depth_of,
    fill,
    is_term,
    is_tree,
    is_word,
    names_of,
    size_of,
)

SIGNS = (("s", 1), ("z", 0), ("pair", 2))
Z = ("z",)


def chain(many, inner):
    """The sign s so many times around a term."""
    for _ in range(many):
        inner = ("s", inner)
    return inner


def comb(many):
    """A tree of the size 2 * many + 1 and the depth many + 1."""
    tree = Z
    for _ in range(many):
        tree = ("pair", Z, tree)
    return tree


def bush(levels):
    """The full tree of pairs: the size is 2 ** levels - 1."""
    return Z if levels == 1 else ("pair", bush(levels - 1), bush(levels - 1))


class WordsTest(unittest.TestCase):
    def test_constants(self):
        self.assertEqual((MAX_WORD, MAX_SIGNS, MAX_ARITY, MAX_TREE, MAX_DEEP), (8, 4, 2, 400, 100))
        self.assertEqual(RESERVED, ("sign", "mark", "if", "not", "all", "some", "and", "or", "end"))

    def test_words(self):
        for text in ["a", "z", "even", "abcdefgh", "zzzzzzzz", "signs", "iff", "an", "nota"]:
            self.assertIs(is_word(text), True, text)

    def test_lengths(self):
        self.assertIs(is_word(""), False)
        self.assertIs(is_word("abcdefghi"), False)
        self.assertIs(is_word("a" * 1000), False)

    def test_reserved(self):
        for text in ["sign", "mark", "if", "not", "all", "some", "and", "or", "end"]:
            self.assertIs(is_word(text), False, text)

    def test_other_characters(self):
        for text in ["A", "aB", "a1", "1", "a b", " a", "a ", " ", "a\n", "\n", "a_b", "a-b", "`", "{", "a.", "@a"]:
            self.assertIs(is_word(text), False, repr(text))


class SignsTest(unittest.TestCase):
    def allowed(self, *signs):
        self.assertIsNone(check_signs(signs))

    def refused(self, *signs):
        with self.assertRaises(NotAllowed):
            check_signs(signs)

    def test_how_many(self):
        self.refused()
        self.allowed(("z", 0))
        self.allowed(("a", 0), ("b", 1), ("c", 2), ("d", 0))
        self.refused(("a", 0), ("b", 1), ("c", 2), ("d", 0), ("e", 0))

    def test_different(self):
        self.refused(("a", 0), ("a", 0))
        self.refused(("a", 0), ("b", 1), ("a", 1))
        self.allowed(("a", 0), ("b", 0))

    def test_words(self):
        for text in ["", "A", "not", "end", "abcdefghi", "a b", "a1"]:
            self.refused((text, 0))
            self.refused(("z", 0), (text, 1))
        self.allowed(("abcdefgh", 0))

    def test_arities(self):
        for arity in [-1, 3, 100]:
            self.refused(("z", 0), ("s", arity))
            self.refused(("s", arity), ("z", 0))
        for arity in [0, 1, 2]:
            self.allowed(("z", 0), ("s", arity))
        self.refused(("z", -1))

    def test_some_sign_has_no_parts(self):
        self.refused(("s", 1))
        self.refused(("s", 1), ("t", 2))
        self.allowed(("s", 1), ("t", 2), ("z", 0))

    def test_arity_of(self):
        self.assertEqual([arity_of(SIGNS, word) for word in ["s", "z", "pair"]], [1, 0, 2])
        for text in ["x", "", "S", "not", "zz", "pai"]:
            self.assertEqual(arity_of(SIGNS, text), -1)


class TermsTest(unittest.TestCase):
    def term(self, *values):
        for value in values:
            self.assertIs(is_term(SIGNS, value), True, value)

    def no_term(self, *values):
        """No term, at any depth, and so no tree."""
        for value in values:
            wrapped = [value, ("s", value), ("pair", value, Z), ("pair", "x", value), chain(50, ("pair", Z, value))]
            for worse in wrapped:
                self.assertIs(is_term(SIGNS, worse), False, worse)
                self.assertIs(is_tree(SIGNS, worse), False, worse)

    def test_example(self):
        term = ("pair", "x", ("s", "x"))
        self.assertEqual((names_of(term), size_of(term)), (["x"], 4))
        self.assertEqual(fill(term, {"x": Z}), ("pair", Z, ("s", Z)))

    def test_terms(self):
        self.term("x", "abcdefgh", Z, ("s", "x"), ("s", Z), ("pair", "x", "x"), ("pair", Z, ("s", ("s", "y"))))

    def test_number_of_parts(self):
        self.no_term(("z", "x"), ("z", Z), ("s",), ("s", "x", "y"), ("pair",), ("pair", "x"), ("pair", "x", "y", "z"))
        self.no_term(("pair", "x", "y", "w"), ("pair", Z, Z, Z))

    def test_empty_and_misplaced_tuples(self):
        self.no_term((), ((),), (Z,), (("s", "x"),), (("s",), "x"), ("s", ()), (Z, Z))

    def test_wrong_words(self):
        self.no_term("", "z", "s", "pair", "not", "sign", "X", "a b", "a1", "abcdefghi", "x\n")
        self.no_term(("x",), ("t", "x"), ("", "x"), ("not", "x"), ("zz",), ("x", "y"))

    def test_any_size(self):
        self.term(comb(300), chain(1000, "x"), bush(11))
        self.assertEqual(size_of(bush(11)), 2047)

    def test_nested_deep(self):
        self.term(chain(199, Z), chain(199, "x"))
        self.no_term(chain(150, ()), chain(150, "not"), chain(150, ("s",)))
        deep = ()
        for _ in range(200):
            deep = (deep,)
        self.assertIs(is_term(SIGNS, deep), False)
        self.assertIs(is_tree(SIGNS, deep), False)
        self.assertIs(is_tree(SIGNS, chain(199, Z)), False)

    def test_over_other_signs(self):
        self.assertIs(is_term((("x", 0),), "z"), True)
        self.assertIs(is_term((("x", 0),), "x"), False)
        self.assertIs(is_term((("x", 0),), ("z",)), False)


class MeasuresTest(unittest.TestCase):
    def test_names(self):
        self.assertEqual(names_of("x"), ["x"])
        self.assertEqual(names_of(Z), [])
        self.assertEqual(names_of(("pair", ("pair", "y", ("s", "a")), ("pair", "a", "x"))), ["y", "a", "x"])
        self.assertEqual(names_of(("pair", ("s", ("s", "b")), "a")), ["b", "a"])
        self.assertEqual(names_of(chain(300, ("pair", "b", "a"))), ["b", "a"])

    def test_list_of_names_is_new(self):
        term = ("pair", "x", "y")
        names_of(term).append("w")
        self.assertEqual(names_of(term), ["x", "y"])

    def test_sizes(self):
        self.assertEqual(size_of("x"), 1)
        self.assertEqual(size_of(Z), 1)
        self.assertEqual(size_of(("pair", "x", "x")), 3)
        self.assertEqual(size_of(("pair", ("s", Z), ("pair", "x", Z))), 6)

    def test_depths(self):
        self.assertEqual(depth_of("x"), 1)
        self.assertEqual(depth_of(Z), 1)
        self.assertEqual(depth_of(("s", "x")), 2)
        self.assertEqual(depth_of(("pair", "x", ("s", ("s", Z)))), 4)
        self.assertEqual(depth_of(("pair", ("s", ("s", Z)), "x")), 4)
        self.assertEqual(depth_of(chain(1500, Z)), 1501)


class FillTest(unittest.TestCase):
    def test_name(self):
        self.assertEqual(fill("x", {"x": Z}), Z)
        self.assertEqual(fill("x", {"y": Z}), "x")
        self.assertEqual(fill("x", {}), "x")

    def test_names_stay(self):
        self.assertEqual(fill(("pair", "x", "y"), {"y": ("s", "x")}), ("pair", "x", ("s", "x")))
        self.assertEqual(fill(Z, {"z": "x"}), Z)

    def test_all_at_once(self):
        self.assertEqual(fill(("pair", "x", "y"), {"x": "y", "y": "x"}), ("pair", "y", "x"))

    def test_order_of_parts(self):
        term = ("pair", ("pair", "a", "b"), ("s", ("pair", "b", "c")))
        self.assertEqual(fill(term, {"b": Z}), ("pair", ("pair", "a", Z), ("s", ("pair", Z, "c"))))

    def test_filling_stays(self):
        filling = {"x": ("s", "y"), "u": Z}
        self.assertEqual(fill(chain(199, "x"), filling), chain(200, "y"))
        self.assertEqual(filling, {"x": ("s", "y"), "u": Z})

    def test_deep_terms(self):
        self.assertEqual(depth_of(fill(chain(1200, "x"), {"x": chain(1200, Z)})), 2401)


class TreesTest(unittest.TestCase):
    def test_trees(self):
        for tree in [Z, ("s", Z), ("pair", Z, ("s", Z))]:
            self.assertIs(is_tree(SIGNS, tree), True)

    def test_terms_with_names(self):
        for term in ["x", ("s", "x"), ("pair", Z, "x"), chain(80, ("pair", "x", Z))]:
            self.assertIs(is_term(SIGNS, term), True)
            self.assertIs(is_tree(SIGNS, term), False)

    def test_sizes(self):
        for size, whether in [(400, True), (401, False)]:
            tree = ("pair", bush(8), ("pair", bush(7), chain(size - 385, Z)))
            self.assertEqual(size_of(tree), size)
            self.assertLess(depth_of(tree), 50)
            self.assertIs(is_tree(SIGNS, tree), whether)
            self.assertIs(is_term(SIGNS, tree), True)

    def test_depths(self):
        for depth, whether in [(99, True), (100, True), (101, False)]:
            tree = chain(depth - 1, Z)
            self.assertEqual(depth_of(tree), depth)
            self.assertIs(is_tree(SIGNS, tree), whether)
            self.assertIs(is_term(SIGNS, tree), True)

    def test_size_beyond_counting(self):
        tree = Z
        for _ in range(200):
            tree = ("pair", tree, tree)
        self.assertIs(is_tree(SIGNS, tree), False)


if __name__ == "__main__":
    unittest.main()
