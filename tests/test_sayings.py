import copy
import itertools
import random
import time
import unittest

import chance
import examples
import told
from pergola.bookreader import read_book
from pergola.errors import Missing, NotAllowed, TooLarge
from pergola.sayings import MAX_NESTED, MAX_NODES, check_saying, free_names, holds, true_rows
from pergola.table import table_of

Z = ("z",)
ONE = ("s", Z)
BOOK = read_book(examples.EVEN)
PAIRS = read_book(examples.FLOORS)
BEYOND = read_book(examples.ROWS25)
EITHER = ("all", "x", ("or", ("at", "even", "x"), ("at", "odd", "x")))
UNLIKE = ("and", ("at", "even", "x"), ("some", "x", ("at", "odd", ("s", "y"))))


def chain(many, inner):
    for _ in range(many):
        inner = ("s", inner)
    return inner


def nots(many, saying):
    for _ in range(many):
        saying = ("not", saying)
    return saying


def row_of_ands(leaves, leaf=("at", "even", "x")):
    """A saying with so many leaves, which has 2 * leaves - 1 nodes."""
    saying = leaf
    for _ in range(leaves - 1):
        saying = ("and", saying, leaf)
    return saying


def nest(names, saying):
    for name in reversed(names):
        saying = ("all" if len(name) == 1 else "some", name, saying)
    return saying


class CheckSayingTest(unittest.TestCase):
    def allowed(self, saying, book=PAIRS):
        self.assertIsNone(check_saying(book, saying))

    def refused(self, saying, book=PAIRS):
        with self.assertRaises(NotAllowed):
            check_saying(book, saying)

    def both(self, whether, saying):
        """The saying itself, and within others."""
        leaf = ("at", "even", "x")
        check = self.allowed if whether else self.refused
        for around in [saying, ("not", saying), ("and", saying, leaf), ("or", leaf, saying), ("all", "x", saying)]:
            check(around)
        check(("some", "y", ("and", leaf, ("not", saying))))

    def test_constants(self):
        self.assertEqual((MAX_NODES, MAX_NESTED), (60, 4))

    def test_examples(self):
        self.allowed(EITHER, BOOK)
        self.allowed(UNLIKE, BOOK)

    def test_marks(self):
        for mark in ["top", "even", "odd", "mixed", "plain"]:
            self.both(True, ("at", mark, "x"))
        for mark in ["evens", "", "z", "x", "at", "not", ("even",), (), ("at", "even", "x")]:
            self.both(False, ("at", mark, "x"))

    def test_terms(self):
        for term in ["x", "even", "at", "abcdefgh", Z, ("pair", "x", ("pair", "y", "x")), chain(5, "x"), chain(5, Z)]:
            self.both(True, ("at", "even", term))
        for term in ["z", "s", "not", "", "X", "abcdefghi", (), ("x",), ("s",), ("s", "x", "y"), ("t", "x"), (Z,)]:
            self.both(False, ("at", "even", term))
        for term in [chain(6, "x"), chain(6, Z), ("pair", ("pair", "x", "y"), ("pair", "x", "y")), chain(190, "x")]:
            self.both(False, ("at", "even", term))
        huge = "x"
        for _ in range(150):
            huge = ("pair", huge, huge)
        self.both(False, ("at", "even", huge))

    def test_numbers_of_parts(self):
        leaf = ("at", "even", "x")
        for saying in [
            (),
            ("at",),
            ("at", "even"),
            ("at", "even", "x", "x"),
            ("not",),
            ("not", leaf, leaf),
            ("and",),
            ("and", leaf),
            ("and", leaf, leaf, leaf),
            ("or", leaf),
            ("or", leaf, leaf, leaf),
            ("all", "x"),
            ("all", leaf),
            ("some", "x", leaf, leaf),
            ("some", "x", "y", leaf),
        ]:
            self.both(False, saying)

    def test_values_of_other_forms(self):
        leaf = ("at", "even", "x")
        for saying in [
            "x",
            "",
            "at",
            "even",
            ("even", "x"),
            ("even", "at", "x"),
            ("", leaf),
            ("if", leaf, leaf),
            ("nor", leaf, leaf),
            ("exists", "x", leaf),
            ("x", leaf, leaf),
            (leaf,),
            (leaf, leaf, leaf),
            ((), leaf, leaf),
            (("not",), leaf),
            ("not", "x"),
            ("not", ()),
            ("and", leaf, "x"),
            ("or", (), leaf),
            ("all", "x", "x"),
            ("all", leaf, leaf),
            ("all", "x", ("x",)),
        ]:
            self.both(False, saying)

    def test_names_of_quantifiers(self):
        leaf = ("at", "even", "x")
        for kind in ["all", "some"]:
            for name in ["x", "y", "even", "all", "some"]:
                self.both(name not in ["all", "some"], (kind, name, leaf))
            for name in ["z", "s", "pair", "not", "", "X", "x y", "abcdefghi", (), ("x",), Z]:
                self.both(False, (kind, name, leaf))

    def test_how_many_nodes(self):
        self.allowed(nots(59, ("at", "even", "x")))
        self.refused(nots(60, ("at", "even", "x")))
        self.refused(nots(190, ("at", "even", "x")))
        self.allowed(row_of_ands(30))
        self.refused(row_of_ands(31))
        self.allowed(("not", row_of_ands(30)))
        self.refused(("not", ("not", row_of_ands(30))))
        self.allowed(("or", row_of_ands(15), row_of_ands(15)))
        self.refused(("or", ("not", row_of_ands(15)), ("not", row_of_ands(15))))
        self.allowed(("all", "x", row_of_ands(30)))
        huge = ("at", "even", "x")
        for _ in range(150):
            huge = ("and", huge, huge)
        self.refused(huge)

    def test_terms_are_no_nodes(self):
        self.allowed(row_of_ands(30, ("at", "even", chain(5, "x"))))

    def test_how_many_quantifiers(self):
        leaf = ("at", "even", "x")
        self.allowed(nest("abcd", leaf))
        self.refused(nest("abcde", leaf))
        self.refused(nest("xxxxx", leaf))
        self.refused(nest("ab", ("not", ("and", leaf, nest("abc", leaf)))))
        self.allowed(nest("ab", ("or", nest("cd", leaf), ("not", nest("xy", leaf)))))
        self.allowed(("and", nest("abcd", leaf), nest("abcd", leaf)))
        self.refused(nest("a", ("and", nest("abcd", leaf), leaf)))
        self.refused(nest("a", ("and", leaf, nest("abcd", leaf))))


class FreeNamesTest(unittest.TestCase):
    def test_example(self):
        self.assertEqual(free_names(EITHER), [])
        self.assertEqual(free_names(UNLIKE), ["x", "y"])

    def test_order(self):
        pair = ("at", "even", ("pair", "y", ("pair", "x", "y")))
        self.assertEqual(free_names(pair), ["y", "x"])
        self.assertEqual(free_names(("and", ("at", "odd", "v"), pair)), ["v", "y", "x"])
        self.assertEqual(free_names(("or", pair, ("not", ("at", "odd", "v")))), ["y", "x", "v"])
        self.assertEqual(free_names(("at", "even", Z)), [])

    def test_quantifiers(self):
        pair = ("at", "even", ("pair", "y", "x"))
        self.assertEqual(free_names(("all", "y", pair)), ["x"])
        self.assertEqual(free_names(("some", "x", pair)), ["y"])
        self.assertEqual(free_names(("some", "x", ("all", "y", pair))), [])
        self.assertEqual(free_names(("all", "v", pair)), ["y", "x"])
        self.assertEqual(free_names(("and", ("all", "y", pair), pair)), ["x", "y"])
        self.assertEqual(free_names(("and", pair, ("all", "y", pair))), ["y", "x"])
        self.assertEqual(free_names(("all", "x", ("and", ("some", "x", pair), ("at", "odd", "x")))), ["y"])

    def test_by_chance(self):
        chooser = random.Random(12)
        for _ in range(300):
            saying = chance.some_saying(chooser, PAIRS, ["x", "y", "u"], 20, 4)
            self.assertEqual(free_names(saying), list(dict.fromkeys(told.free_told(saying))))

    def test_a_new_list(self):
        free_names(UNLIKE).clear()
        self.assertEqual(free_names(UNLIKE), ["x", "y"])


class HoldsTest(unittest.TestCase):
    def test_example(self):
        self.assertIs(holds(BOOK, EITHER, {}), True)
        self.assertIs(holds(BOOK, ("at", "odd", ("s", "x")), {"x": ONE}), False)
        with self.assertRaises(Missing):
            holds(BOOK, UNLIKE, {"x": Z})

    def test_each_kind(self):
        yes, no = ("at", "even", "x"), ("at", "odd", "x")
        for saying, whether in [
            (yes, True),
            (no, False),
            (("not", yes), False),
            (("not", no), True),
            (("and", yes, yes), True),
            (("and", yes, no), False),
            (("and", no, yes), False),
            (("or", yes, no), True),
            (("or", no, yes), True),
            (("or", no, no), False),
            (("all", "y", yes), True),
            (("all", "x", yes), False),
            (("some", "x", no), True),
            (("some", "y", no), False),
            (("all", "x", ("some", "y", ("at", "odd", ("s", "y")))), True),
            (("some", "y", ("all", "x", ("and", ("at", "even", "y"), ("or", yes, no)))), True),
            (("all", "x", ("at", "no", "x")), False),
            (("some", "x", ("at", "no", ("s", "x"))), True),
        ]:
            self.assertIs(holds(BOOK, saying, {"x": Z}), whether, saying)

    def test_names_that_quantifiers_use_again(self):
        inner = ("some", "x", ("at", "odd", "x"))
        for saying, whether in [
            (("and", ("at", "even", "x"), inner), True),
            (("and", inner, ("at", "odd", "x")), False),
            (("all", "x", ("or", inner, ("at", "odd", "x"))), True),
            (("some", "x", ("and", ("at", "even", "x"), ("all", "x", ("or", ("at", "even", "x"), ("at", "odd", "x"))))), True),
            (("all", "x", ("and", ("some", "x", ("at", "odd", "x")), ("at", "even", "x"))), False),
        ]:
            self.assertIs(holds(BOOK, saying, {"x": Z}), whether, saying)

    def test_large_trees(self):
        tree = chain(99, Z)
        self.assertIs(holds(BOOK, ("at", "odd", "x"), {"x": tree}), True)
        self.assertIs(holds(BOOK, ("at", "odd", chain(5, "x")), {"x": tree}), False)

    def test_by_chance(self):
        chooser = random.Random(13)
        found = []
        for _ in range(300):
            book = chance.some_book(chooser)
            table = table_of(book)
            if len(table[0]) > 4:
                continue
            saying = chance.some_saying(chooser, book, ["x", "y", "u"], chooser.randint(1, 12), 3)
            rows = {name: chooser.randrange(len(table[0])) for name in ["x", "y", "u"]}
            filling = {name: table[2][row] for name, row in rows.items()}
            found.append(holds(book, saying, filling))
            self.assertIs(found[-1], told.holds_told(book, table, saying, rows))
        self.assertTrue(50 < found.count(True) < len(found) - 50)

    def test_errors(self):
        for book in [PAIRS, BEYOND]:
            saying = ("at", book[1][0][0], "x")
            for filling in [{}, {"y": Z}]:
                with self.assertRaises(Missing):
                    holds(book, saying, filling)
        with self.assertRaises(TooLarge):
            holds(BEYOND, ("at", "pa", "x"), {"x": Z})
        with self.assertRaises(TooLarge):
            holds(BEYOND, ("at", "pa", Z), {})

    def test_nothing_is_changed(self):
        filling = {"x": Z, "y": ONE, "w": Z}
        before = copy.deepcopy(filling)
        self.assertIs(holds(BOOK, UNLIKE, filling), False)
        self.assertIs(holds(PAIRS, EITHER, filling), False)
        self.assertIs(holds(BOOK, UNLIKE, filling), False)
        self.assertEqual(filling, before)


class TrueRowsTest(unittest.TestCase):
    def test_example(self):
        self.assertEqual(true_rows(BOOK, UNLIKE, ["y", "x"]), [(0, 0)])

    def test_no_names(self):
        self.assertEqual(true_rows(BOOK, EITHER, []), [()])
        self.assertEqual(true_rows(BOOK, ("not", EITHER), []), [])

    def test_order(self):
        self.assertEqual(true_rows(BOOK, ("at", "even", "x"), ["x", "y"]), [(0, 0), (0, 1)])
        self.assertEqual(true_rows(BOOK, ("at", "even", "x"), ["y", "x"]), [(0, 0), (1, 0)])
        every = ("or", ("at", "even", "x"), ("not", ("at", "even", "x")))
        for many in range(1, 5):
            names = ["x", "y", "u", "v"][:many]
            self.assertEqual(true_rows(PAIRS, every, names), list(itertools.product(range(4), repeat=many)))
        self.assertEqual(true_rows(BOOK, ("at", "even", Z), ["x"]), [(0,), (1,)])

    def test_by_chance(self):
        chooser = random.Random(14)
        for _ in range(300):
            book = chance.some_book(chooser)
            table = table_of(book)
            if len(table[0]) > 4:
                continue
            names = ["x", "y", "u"][: chooser.randint(0, 3)]
            saying = chance.some_saying(chooser, book, names, chooser.randint(1, 12), 4 - len(names))
            chooser.shuffle(names)
            if set(free_names(saying)) <= set(names):
                self.assertEqual(true_rows(book, saying, names), told.rows_told(book, table, saying, names))

    def refused(self, error, book, saying, names):
        with self.assertRaises(error):
            true_rows(book, saying, names)

    def test_names_that_are_not_allowed(self):
        leaf = ("at", "even", "x")
        for name in ["z", "s", "pair", "not", "", "X", "abcdefghi", "x y"]:
            self.refused(NotAllowed, PAIRS, leaf, ["x", name])
            self.refused(NotAllowed, PAIRS, leaf, [name])
        self.refused(NotAllowed, PAIRS, leaf, ["x", "x"])
        self.refused(NotAllowed, PAIRS, leaf, ["x", "y", "x"])
        self.assertEqual(len(true_rows(PAIRS, leaf, ["x", "even"])), 4)

    def test_how_many_names(self):
        leaf = ("at", "even", "x")
        for nested in range(5):
            saying = nest("abcd"[:nested], leaf)
            for many in range(1, 6):
                names = ["x", "y", "u", "v", "w"][:many]
                if many + nested > 4:
                    self.refused(NotAllowed, PAIRS, saying, names)
                else:
                    self.assertTrue(true_rows(PAIRS, saying, names))
        aside = ("or", nest("ab", leaf), ("not", nest("abc", leaf)))
        self.assertTrue(true_rows(PAIRS, aside, ["x"]))
        self.refused(NotAllowed, PAIRS, aside, ["x", "y"])
        self.assertEqual(true_rows(PAIRS, nest("abcx", leaf), []), [])

    def test_order_of_errors(self):
        leaf = ("at", "even", "x")
        self.refused(NotAllowed, PAIRS, leaf, ["z"])
        self.refused(NotAllowed, PAIRS, leaf, ["y", "y"])
        self.refused(NotAllowed, PAIRS, leaf, ["a", "b", "c", "d", "e"])
        self.refused(Missing, PAIRS, leaf, ["y"])
        self.refused(Missing, PAIRS, leaf, [])
        leaf = ("at", "pa", "x")
        self.refused(NotAllowed, BEYOND, leaf, ["z"])
        self.refused(NotAllowed, BEYOND, leaf, ["x", "x"])
        self.refused(Missing, BEYOND, leaf, ["y"])
        self.refused(TooLarge, BEYOND, leaf, ["x"])

    def test_nothing_is_changed(self):
        names = ["y", "x"]
        true_rows(BOOK, UNLIKE, names).clear()
        self.assertEqual(names, ["y", "x"])
        self.assertEqual(true_rows(BOOK, UNLIKE, names), [(0, 0)])


class TimeTest(unittest.TestCase):
    def test_largest_sayings(self):
        book = read_book(examples.LARGE_ASIDE)
        signs = [("pair", ("node", "x", "y"), "u"), ("node", "v", ("pair", "u", "y")), ("pair", "x", ("node", "v", "u"))]
        leaves = [("at", mark, term) for mark, _ in book[1] for term in signs]
        inner = leaves[0]
        for number in range(27):
            inner = (["and", "or"][number % 2], inner, leaves[number % len(leaves)])
        saying = ("all", "x", ("some", "y", ("all", "u", ("some", "v", inner))))
        self.assertIsNone(check_saying(book, saying))
        start = time.perf_counter()
        whether = holds(book, saying, {})
        rows = true_rows(book, inner, ["x", "y", "u", "v"])
        self.assertLess(time.perf_counter() - start, 15)
        self.assertTrue(0 < len(rows) < 24 ** 4)
        found = {row[:3] for row in rows}
        each = range(24)
        self.assertIs(whether, all(any(all((x, y, u) in found for u in each) for y in each) for x in each))


if __name__ == "__main__":
    unittest.main()
