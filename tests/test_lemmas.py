import copy
import itertools
import random
import time
import unittest

import chance
import examples
import told
from pergola.bookreader import read_book
from pergola.books import further_names
from pergola.errors import TooLarge
from pergola.lemmas import MAX_STEPS, follows, is_lemma, lemmas_of, value_of
from pergola.table import table_of

Z = ("z",)
EVEN = read_book(examples.EVEN)
TABLE = table_of(EVEN)
FIRST = ("even", "z", (), 0, ())
SECOND = ("odd", "s", ((0, ("even",)),), 1, ())
THIRD = ("even", "s", ((1, ("odd",)),), 2, ())
FOURTH = ("no", "s", ((0, ()),), 3, ())

# A book in which everything that a lemma may have is met.
WIDE = read_book(
    """sign z 0
sign s 1
sign pair 2
mark a 0
mark b 1
mark c 0
mark d 1
a(x)
c(pair(x, y)) if a(x), c(pair(y, x))
b(s(x)) if b(u), a(x)
d(x) if not c(s(x)), b(x)
c(s(x)) if a(x)
d(pair(x, y)) if b(x), d(y), d(u), a(s(u))
"""
)
# A table over it, which need not be the one of the book.
ROWS = (("a",), ("a", "b", "c"), ("a", "b", "c", "d"), ("b", "d"))
MOVES = (0, (1, 2, 2, 0), ((0, 1, 2, 3), (3, 2, 1, 0), (1, 1, 1, 1), (2, 0, 2, 0)))
WIDE_TABLE = (ROWS, MOVES, (Z, Z, Z, Z))


def steps_of(many):
    """So many steps, each a sign over the one before."""
    return (("z", ()),) + tuple(("s", (number,)) for number in range(many - 1))


def some_lemma(chooser, book, table):
    _, marks, rules = book
    floors = dict(marks)
    index = chooser.randrange(len(rules))
    mark, head, _ = rules[index]
    sign = chooser.choice(book[0])[0] if isinstance(head, str) else head[0]
    parts = []
    for _ in range(dict(book[0])[sign]):
        row = chooser.randrange(len(table[0]))
        own = [word for word in table[0][row] if floors[word] == floors[mark] and chooser.random() < 0.6]
        parts.append((row, tuple(own)))
    steps = []
    while further_names(rules[index]) and (not steps or chooser.random() < 0.7):
        word, arity = chooser.choice([pair for pair in book[0] if pair[1] == 0 or steps])
        steps.append((word, tuple(chooser.randrange(len(steps)) for _ in range(arity))))
    return (mark, sign, tuple(parts), index, tuple(steps))


class IsLemmaTest(unittest.TestCase):
    def lemma(self, whether, *lemma):
        self.assertIs(is_lemma(WIDE, WIDE_TABLE, lemma), whether, lemma)

    def test_constant(self):
        self.assertEqual(MAX_STEPS, 600)

    def test_example(self):
        for lemma in [FIRST, SECOND, THIRD, FOURTH]:
            self.assertIs(is_lemma(EVEN, TABLE, lemma), True)

    def test_marks_and_signs(self):
        self.lemma(True, "a", "z", (), 0, ())
        self.lemma(True, "a", "s", ((0, ()),), 0, ())
        self.lemma(True, "a", "pair", ((0, ()), (3, ())), 0, ())
        for mark in ["b", "c", "e", "", "z", "x", "not"]:
            self.lemma(False, mark, "z", (), 0, ())
        for sign in ["s", "pair", "t", "", "a", "x"]:
            self.lemma(False, "a", sign, (), 0, ())
        self.lemma(False, "a", "t", ((0, ()),), 0, ())

    def test_how_many_parts(self):
        part = (0, ())
        for sign, arity in WIDE[0]:
            for many in range(4):
                self.lemma(many == arity, "a", sign, (part,) * many, 0, ())

    def test_rows_of_parts(self):
        for row in range(-2, 6):
            self.lemma(0 <= row < 4, "a", "s", ((row, ()),), 0, ())
            self.lemma(0 <= row < 4, "a", "pair", ((0, ()), (row, ())), 0, ())
            self.lemma(0 <= row < 4, "a", "pair", ((row, ()), (0, ())), 0, ())

    def test_own_marks_of_parts(self):
        for row, own, whether in [
            (0, ("a",), True),
            (0, ("c",), False),
            (0, ("b",), False),
            (1, ("a",), True),
            (1, ("c",), True),
            (1, ("a", "c"), True),
            (1, ("c", "a"), False),
            (1, ("a", "a"), False),
            (1, ("a", "b"), False),
            (1, ("b",), False),
            (1, ("e",), False),
            (2, ("a", "c"), True),
            (3, ("a",), False),
            (3, ("d",), False),
        ]:
            self.lemma(whether, "a", "s", ((row, own),), 0, ())
            self.lemma(whether, "a", "pair", ((0, ()), (row, own)), 0, ())
        steps = steps_of(1)
        for row, own, whether in [(3, ("b", "d"), True), (3, ("d",), True), (2, ("a",), False), (2, ("d", "b"), False)]:
            self.lemma(whether, "b", "s", ((row, own),), 2, steps)

    def test_rules(self):
        self.lemma(True, "c", "pair", ((0, ()), (0, ())), 1, ())
        self.lemma(True, "c", "s", ((0, ()),), 4, ())
        self.lemma(False, "c", "s", ((0, ()),), 1, ())
        self.lemma(False, "c", "pair", ((0, ()), (0, ())), 4, ())
        for index in [-6, -1, 0, 2, 3, 5, 6, 100]:
            self.lemma(False, "c", "s", ((0, ()),), index, ())
        for sign, parts in [("z", ()), ("s", ((0, ()),)), ("pair", ((0, ()), (0, ())))]:
            self.lemma(True, "d", sign, parts, 3, ())

    def test_steps(self):
        def steps(whether, *told_steps):
            self.lemma(whether, "b", "s", ((0, ()),), 2, told_steps)
            if told_steps:
                self.lemma(False, "d", "z", (), 3, told_steps)

        zero = ("z", ())
        steps(True, zero)
        steps(True, zero, zero, ("pair", (0, 1)), ("pair", (2, 2)), ("s", (0,)))
        steps(False)
        for step in [("z", (0,)), ("s", ()), ("s", (1,)), ("s", (-1,)), ("s", (0, 0)), ("pair", (0,)), ("pair", (0, 1))]:
            steps(False, zero, step)
            steps(False, zero, step, zero)
        for step in [("t", ()), ("t", (0,)), ("x", ()), ("", ()), ("a", ())]:
            steps(False, zero, step)
        steps(False, ("s", (0,)))
        self.lemma(True, "d", "z", (), 3, ())

    def test_how_many_steps(self):
        for many, whether in [(1, True), (599, True), (600, True), (601, False)]:
            self.lemma(whether, "b", "s", ((0, ()),), 2, steps_of(many))

    def test_by_chance(self):
        chooser = random.Random(6)
        for _ in range(200):
            self.assertIs(is_lemma(WIDE, WIDE_TABLE, some_lemma(chooser, WIDE, WIDE_TABLE)), True)


class ValueOfTest(unittest.TestCase):
    def test_example(self):
        one = ("s", Z)
        self.assertEqual(value_of(EVEN, TABLE, [FIRST, SECOND], 0, one, {}), (1, ("odd",)))
        self.assertEqual(value_of(EVEN, TABLE, [SECOND], 0, one, {}), (1, ()))
        self.assertEqual(value_of(EVEN, TABLE, [], 0, one, {}), (1, ()))

    def test_names(self):
        for value in itertools.product([0, 1], [(), ("even",), ("odd",), ("even", "odd")]):
            self.assertEqual(value_of(EVEN, TABLE, [FIRST], 0, "x", {"x": value, "y": (0, ())}), value)
        self.assertEqual(value_of(EVEN, TABLE, [FIRST], 2, "x", {"x": (1, ())}), (1, ()))

    def test_what_lemmas_ask_for(self):
        term = ("s", "x")
        for own, found in [((), ()), (("even",), ("odd",)), (("odd",), ()), (("even", "odd"), ("odd",))]:
            self.assertEqual(value_of(EVEN, TABLE, [SECOND], 0, term, {"x": (0, own)}), (1, found))
            self.assertEqual(value_of(EVEN, TABLE, [SECOND], 0, term, {"x": (1, own)}), (0, ()))

    def test_marks_that_the_row_does_not_have(self):
        wrong = ("odd", "s", ((1, ()),), 1, ())
        self.assertEqual(value_of(EVEN, TABLE, [wrong], 0, ("s", "x"), {"x": (1, ())}), (0, ("odd",)))
        both = [wrong, ("even", "s", ((1, ()),), 2, ())]
        self.assertEqual(value_of(EVEN, TABLE, both, 0, ("s", "x"), {"x": (1, ())}), (0, ("even", "odd")))

    def test_floors(self):
        lemmas = [FIRST, SECOND, THIRD, FOURTH]
        self.assertEqual(value_of(EVEN, TABLE, lemmas, 1, ("s", Z), {}), (1, ("no",)))
        self.assertEqual(value_of(EVEN, TABLE, lemmas, 2, ("s", Z), {}), (1, ()))

    def test_deep_terms(self):
        term = "x"
        for _ in range(99):
            term = ("s", term)
        lemmas = [SECOND, THIRD]
        self.assertEqual(value_of(EVEN, TABLE, lemmas, 0, term, {"x": (0, ("even",))}), (1, ("odd",)))
        self.assertEqual(value_of(EVEN, TABLE, lemmas, 0, term, {"x": (0, ())}), (1, ()))

    def test_by_chance(self):
        chooser = random.Random(7)
        owns = {0: ["a", "c"], 1: ["b", "d"], 2: []}
        for _ in range(300):
            lemmas = [some_lemma(chooser, WIDE, WIDE_TABLE) for _ in range(chooser.randint(0, 12))]
            term = chance.some_term(chooser, WIDE[0], ["x", "y"], chooser.randint(1, 8))
            floor = chooser.randrange(3)
            filling = {
                name: (chooser.randrange(4), tuple(mark for mark in owns[floor] if chooser.random() < 0.5))
                for name in ["x", "y", "w"]
            }
            value = value_of(WIDE, WIDE_TABLE, lemmas, floor, term, filling)
            self.assertEqual(value, told.value_told(WIDE, WIDE_TABLE, lemmas, floor, term, filling))


class FollowsTest(unittest.TestCase):
    def test_example(self):
        self.assertIs(follows(EVEN, TABLE, [], SECOND), True)
        self.assertIs(follows(EVEN, TABLE, [], ("odd", "s", ((0, ()),), 1, ())), False)

    def test_heads_that_are_names(self):
        book = read_book("sign z 0\nsign s 1\nmark a 0\nmark b 0\na(z)\nb(x) if a(x)\na(x) if b(s(x))\nb(s(x)) if b(x)\n")
        table = table_of(book)
        self.assertEqual(table[0], (("a", "b"),))
        first, second = ("a", "z", (), 0, ()), ("b", "z", (), 1, ())
        self.assertIs(follows(book, table, [], second), False)
        self.assertIs(follows(book, table, [first], second), True)
        up = ("a", "s", ((0, ("b",)),), 2, ())
        known = ("b", "s", ((0, ("b",)),), 3, ())
        self.assertIs(follows(book, table, [], up), False)
        self.assertIs(follows(book, table, [known], up), True)

    def test_lower_floors(self):
        rule = ("top", ("s", "x"), ((True, "even", "x"), (False, "odd", ("s", ("s", "x")))))
        book = (EVEN[0], EVEN[1] + (("top", 2),), EVEN[2] + (rule,))
        rows, moves, trees = table_of(book)
        for row in range(2):
            lemma = ("top", "s", ((row, ()),), 4, ())
            self.assertIs(follows(book, (rows, moves, trees), [], lemma), row == 0)

    def test_further_trees(self):
        book = read_book("sign z 0\nsign s 1\nmark a 0\nmark b 0\na(s(x)) if b(x)\nb(z)\nb(z) if a(u)\n")
        table = table_of(book)
        base, over = ("b", "z", (), 1, ()), ("a", "s", ((0, ("b",)),), 0, ())
        for steps, lemmas, whether in [
            (steps_of(2), [base, over], True),
            (steps_of(2), [over, base], True),
            (steps_of(2), [over], False),
            (steps_of(2), [base], False),
            (steps_of(1), [base, over], False),
            (steps_of(3), [base, over], False),
            (steps_of(3) + (("s", (0,)),), [base, over], True),
        ]:
            self.assertIs(follows(book, table, lemmas, ("b", "z", (), 2, steps)), whether)

    def test_600_steps(self):
        book = read_book(examples.EVEN + "no(z) if odd(u)\n")
        table = table_of(book)
        lemmas = [FIRST, SECOND, THIRD]
        for many in [599, 600]:
            lemma = ("no", "z", (), 4, steps_of(many))
            self.assertIs(follows(book, table, lemmas, lemma), many == 600)

    def test_by_chance(self):
        chooser = random.Random(8)
        found = []
        for _ in range(600):
            lemmas = [some_lemma(chooser, WIDE, WIDE_TABLE) for _ in range(chooser.randint(0, 12))]
            lemma = some_lemma(chooser, WIDE, WIDE_TABLE)
            whether = follows(WIDE, WIDE_TABLE, lemmas, lemma)
            self.assertIs(whether, told.follows_told(WIDE, WIDE_TABLE, lemmas, lemma))
            found.append(whether)
        self.assertTrue(50 < found.count(True) < 550)

    def test_nothing_is_changed(self):
        lemmas = [FIRST, SECOND]
        filling = {"x": (0, ("even",))}
        before = copy.deepcopy((lemmas, filling))
        follows(EVEN, TABLE, lemmas, THIRD)
        value_of(EVEN, TABLE, lemmas, 0, ("s", "x"), filling)
        self.assertEqual((lemmas, filling), before)


class LemmasOfTest(unittest.TestCase):
    def shown(self, book):
        table = table_of(book)
        lemmas = lemmas_of(book)
        self.assertTrue(all(is_lemma(book, table, lemma) for lemma in lemmas))
        self.assertEqual(len(set(lemmas)), len(lemmas))
        self.assertTrue(told.right_told(book, table, lemmas))
        self.assertTrue(told.shows_told(book, table, lemmas))

    def test_examples(self):
        for text in [examples.EVEN, examples.UP, examples.ASIDE, examples.FLOORS, examples.SIZE400]:
            self.shown(read_book(text))
        self.shown(((("z", 0), ("s", 1)), (("m", 1),), ()))
        for text in examples.GROWING:
            self.shown(read_book(text))

    def test_by_chance(self):
        chooser = random.Random(9)
        for _ in range(250):
            book = chance.some_book(chooser)
            if len(table_of(book)[0]) < 6:
                self.shown(book)

    def test_too_large(self):
        for text in [examples.ROWS25, examples.ROWS27, examples.SIZE401]:
            with self.assertRaises(TooLarge):
                lemmas_of(read_book(text))

    def test_a_new_list(self):
        lemmas = lemmas_of(EVEN)
        before = list(lemmas)
        lemmas.clear()
        lemmas_of(read_book(examples.UP))
        self.assertEqual(lemmas_of(EVEN), before)

    def test_time(self):
        for text in [examples.LARGE_UP, examples.LARGE_ASIDE]:
            book = read_book(text)
            start = time.perf_counter()
            lemmas = lemmas_of(book)
            self.assertLess(time.perf_counter() - start, 15)
            self.assertEqual(len(set(lemmas)), len(lemmas))


if __name__ == "__main__":
    unittest.main()
