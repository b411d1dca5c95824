import random
import time
import unittest

import chance
import examples
import told
from pergola.bookreader import read_book
from pergola.books import check_book
from pergola.down import down_rules, marks_by_rules
from pergola.errors import TooLarge
from pergola.order import trees_of
from pergola.table import row_of, table_of

TEXT = "sign z 0\nsign s 1\nmark even 0\nmark odd 0\neven(z)\nodd(s(x)) if even(x)\neven(s(x)) if odd(x)\n"
BOOK = read_book(TEXT)
RULES = [("even", ("z",), ()), ("odd", ("s", "x"), ((True, "even", "x"),)), ("even", ("s", "x"), ((True, "odd", "x"),))]


def is_down(book, rule):
    """Whether something is a down rule over the signs and marks of a book."""
    mark, head, body = rule
    floors = dict(book[1])
    # A rule with one literal at a time is one of a book.
    for literals in [(), *[(literal,) for literal in body]]:
        check_book((book[0], book[1], ((mark, head, literals),)))
    if not isinstance(head, tuple) or not isinstance(body, tuple):
        return False
    names = head[1:]
    low = all(floors[word] <= floors[mark] - (not yes) for yes, word, _ in body)
    return low and len(set(names)) == len(names) and all(term in names for _, _, term in body)


def marks_down(book, rules, tree):
    """The marks of a tree by down rules, as [2.2] tells them, floor by floor and round by round."""
    trees = []

    def add(node):
        for part in node[1:]:
            add(part)
        trees.append(node)

    add(tree)
    floors = dict(book[1])
    known = {node: set() for node in trees}
    for floor in range(3):
        grown = True
        while grown:
            before = {node: set(have) for node, have in known.items()}
            for mark, head, body in rules:
                for node in trees:
                    if floors[mark] == floor and node[0] == head[0]:
                        parts = dict(zip(head[1:], node[1:]))
                        if all((word in before[parts[name]]) == yes for yes, word, name in body):
                            known[node].add(mark)
            grown = before != known
    return tuple(mark for mark, _ in book[1] if mark in known[tree])


class DownRulesTest(unittest.TestCase):
    def check(self, book, size):
        rules = down_rules(book)
        self.assertIsInstance(rules, list)
        self.assertEqual(len(set(rules)), len(rules))
        self.assertTrue(all(is_down(book, rule) for rule in rules))
        rows, moves, least = table_of(book)
        for many in range(1, size + 1):
            for tree in trees_of(book[0], many)[:30]:
                row = rows[row_of(book[0], moves, tree, {})]
                self.assertEqual(marks_by_rules(book[0], book[1], rules, tree), row)
                if many <= 4:
                    self.assertEqual(marks_down(book, rules[:200], tree), marks_by_rules(book[0], book[1], rules[:200], tree))
        for row, tree in zip(rows, least):
            self.assertEqual(marks_by_rules(book[0], book[1], rules, tree), row)
        self.assertEqual(down_rules(book), rules)

    def test_small(self):
        self.check(BOOK, 8)
        rules = down_rules(BOOK)
        self.assertIn(RULES[0], rules)
        rules.clear()
        self.assertEqual(len(down_rules(BOOK)), 3)

    def test_up_aside_and_floors(self):
        for text in [examples.UP, examples.ASIDE, examples.FLOORS, *examples.GROWING]:
            self.check(read_book(text), 6)

    def test_signs_that_could_be_names(self):
        text = TEXT.replace("s(x)", "x(y)").replace("(x)", "(y)").replace("sign s", "sign x")
        text = text.replace("sign x 1", "sign x 1\nsign y 0\nsign w 2").replace("(y)", "(z)").replace("sign z 0", "sign o 0")
        text = text.replace("even(z)\n", "even(o)\n", 1)
        book = read_book(text)
        self.assertEqual([sign for sign, _ in book[0]], ["o", "x", "y", "w"])
        self.check(book, 5)

    def test_less_marks_of_its_own_floor(self):
        """With more marks of the same floor in its parts, a tree has them all the same; none is asked to be lacking."""
        book = read_book("sign z 0\nsign o 0\nsign s 1\nmark a 1\nmark b 1\nmark c 0\na(z)\na(o)\nb(o)\nb(s(x)) if a(x)\nc(o)\n")
        self.check(book, 6)

    def test_chance(self):
        chooser = random.Random(58)
        tried = 0
        while tried < 120:
            book = chance.some_book(chooser)
            try:
                table_of(book)
            except TooLarge:
                continue
            self.check(book, 4)
            tried += 1

    def test_great_books(self):
        self.check(read_book(examples.ROWS24), 4)
        self.check(read_book(examples.SIZE400), 3)
        for text in [examples.ROWS25, examples.SIZE401]:
            with self.assertRaises(TooLarge):
                down_rules(read_book(text))

    def test_time(self):
        start = time.perf_counter()
        for text in [examples.LARGE_UP, examples.LARGE_ASIDE]:
            book = read_book(text)
            rules = down_rules(book)
            self.assertEqual(len(set(rules)), len(rules))
            rows, _, trees = table_of(book)
            for row, tree in zip(rows, trees):
                self.assertEqual(marks_by_rules(book[0], book[1], rules, tree), row)
        self.assertLess(time.perf_counter() - start, 20)


class MarksTest(unittest.TestCase):
    def test_examples(self):
        self.assertEqual(marks_by_rules(BOOK[0], BOOK[1], RULES, ("s", ("s", ("s", ("z",))))), ("odd",))

    def test_no_rules(self):
        self.assertEqual(marks_by_rules(BOOK[0], BOOK[1], [], ("s", ("z",))), ())

    def test_order_of_rules_and_marks(self):
        marks = (("odd", 0), ("no", 1), ("even", 0))
        rules = [("no", ("s", "x"), ((False, "odd", "x"),)), ("even", ("s", "v"), ()), *RULES[::-1]]
        tree = ("s", ("z",))
        self.assertEqual(marks_by_rules(BOOK[0], marks, rules, tree), ("odd", "no", "even"))
        self.assertEqual(marks_by_rules(BOOK[0], marks, rules[::-1], tree), ("odd", "no", "even"))

    def test_many_literals(self):
        body = tuple((True, mark, "x") for mark in ("even", "odd") * 10)
        tree = ("s", ("s", ("z",)))
        rules = [("even", ("z",), ()), ("odd", ("z",), ()), ("even", ("s", "x"), body)]
        self.assertEqual(marks_by_rules(BOOK[0], BOOK[1], rules, tree), ())
        self.assertEqual(marks_by_rules(BOOK[0], BOOK[1], rules, ("s", ("z",))), ("even",))
        barred = (*body, (False, "even", "x"))
        rules.append(("odd", ("s", "x"), barred))
        marks = (("even", 0), ("odd", 1))
        self.assertEqual(marks_by_rules(BOOK[0], marks, rules, ("s", ("z",))), ("even",))

    def test_parts(self):
        signs = (("z", 0), ("o", 0), ("pair", 2))
        marks = (("one", 0), ("left", 0), ("right", 1))
        rules = [("one", ("o",), ()), ("left", ("pair", "y", "x"), ((True, "one", "y"),)),
                 ("right", ("pair", "x", "y"), ((True, "one", "y"), (False, "left", "x"), (False, "one", "x")))]
        z, o = ("z",), ("o",)
        told_rows = {("pair", z, z): (), ("pair", o, z): ("left",), ("pair", z, o): ("right",), ("pair", o, o): ("left",)}
        for tree, row in told_rows.items():
            self.assertEqual(marks_by_rules(signs, marks, rules, tree), row)
        self.assertEqual(marks_by_rules(signs, marks, rules, ("pair", ("pair", o, z), o)), ())

    def test_chance(self):
        chooser = random.Random(59)
        for _ in range(150):
            signs = chooser.choice(chance.SHAPES)
            marks = tuple((f"m{letter}", chooser.randint(0, 2)) for letter in "abcd"[: chooser.randint(1, 4)])
            rules = []
            for _ in range(chooser.randint(0, 14)):
                mark, floor = chooser.choice(marks)
                word, arity = chooser.choice(signs)
                names = chooser.sample(["x", "y", "v"], arity)
                body = []
                for _ in range(chooser.randint(0, 6) if names else 0):
                    yes = chooser.random() < 0.6
                    pool = [other for other, low in marks if low <= floor - (not yes)]
                    if pool:
                        body.append((yes, chooser.choice(pool), chooser.choice(names)))
                rules.append((mark, (word, *names), tuple(body)))
            before = list(rules)
            trees = told.trees_to(signs, 4)
            for tree in chooser.sample(trees, min(8, len(trees))):
                self.assertEqual(marks_by_rules(signs, marks, rules, tree), marks_down((signs, marks), rules, tree))
            self.assertEqual(rules, before)


if __name__ == "__main__":
    unittest.main()
