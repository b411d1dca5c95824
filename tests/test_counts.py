import random
import time
import unittest

import chance
import examples
from pergola.bookreader import read_book
from pergola.counts import MAX_SIZED, count_with, place_of, tree_at
from pergola.errors import Missing, NotAllowed, TooLarge
from pergola.order import compare_trees, count_trees, trees_of
from pergola.table import has, table_of
from pergola.terms import is_tree, size_of

TEXT = "sign z 0\nsign s 1\nmark even 0\nmark odd 0\neven(z)\nodd(s(x)) if even(x)\neven(s(x)) if odd(x)\n"
BOOK = read_book(TEXT)
# Every tree has the mark any, none has the mark no, just those of a certain shape the mark odd.
PAIRS = read_book(
    "sign pair 2\nsign z 0\nsign s 1\nmark any 0\nmark no 0\nmark odd 0\nmark low 0\n"
    "any(x)\nlow(z)\nodd(s(x)) if low(x)\nodd(pair(x, y)) if odd(x)\n"
)
ROWS25 = read_book(examples.ROWS25)


def row_of_signs(many):
    tree = ("z",)
    for _ in range(many):
        tree = ("s", tree)
    return tree


class CountTest(unittest.TestCase):
    def test_examples(self):
        self.assertEqual([count_with(BOOK, "even", size) for size in range(6)], [0, 1, 0, 1, 0, 1])
        self.assertEqual(tree_at(BOOK, "odd", 2, 0), ("s", ("z",)))
        with self.assertRaises(Missing):
            tree_at(BOOK, "odd", 2, 1)

    def test_all_trees(self):
        self.assertEqual(MAX_SIZED, 40)
        for size in range(41):
            self.assertEqual(count_with(PAIRS, "any", size), count_trees(PAIRS[0], size))
            self.assertEqual(count_with(PAIRS, "no", size), 0)

    def test_sizes(self):
        for size in [0, 1, 40]:
            self.assertEqual(count_with(BOOK, "even", size), 1 if size == 1 else 0)
        self.assertEqual(count_with(BOOK, "odd", 40), 1)
        self.assertEqual(tree_at(BOOK, "odd", 40, 0), row_of_signs(39))
        self.assertEqual(place_of(BOOK, "odd", row_of_signs(39)), 0)
        for size in [-1, 41, 400]:
            with self.assertRaises(NotAllowed):
                count_with(BOOK, "even", size)
            with self.assertRaises(NotAllowed):
                tree_at(BOOK, "even", size, 0)
        with self.assertRaises(NotAllowed):
            place_of(BOOK, "even", row_of_signs(40))
        with self.assertRaises(Missing):
            tree_at(BOOK, "even", 0, 0)

    def check_size(self, book, mark, size):
        trees = [tree for tree in trees_of(book[0], size) if has(book, mark, tree)]
        self.assertEqual(count_with(book, mark, size), len(trees))
        for index, tree in enumerate(trees):
            self.assertEqual(tree_at(book, mark, size, index), tree)
            self.assertEqual(place_of(book, mark, tree), index)
        for index in [-1, -2, len(trees), len(trees) + 1, 10 ** 30]:
            with self.assertRaises(Missing):
                tree_at(book, mark, size, index)

    def test_small_sizes(self):
        for size in range(6):
            for mark in ["any", "no", "odd"]:
                self.check_size(PAIRS, mark, size)

    def test_chance(self):
        chooser = random.Random(54)
        tried = 0
        while tried < 40:
            book = chance.some_book(chooser)
            try:
                table_of(book)
            except TooLarge:
                continue
            mark = chooser.choice(book[1])[0]
            for size in range(5):
                if count_trees(book[0], size) <= 40:
                    self.check_size(book, mark, size)
            tried += 1

    def test_great_sizes(self):
        chooser = random.Random(55)
        large = read_book(examples.LARGE_ASIDE)
        for book, mark in [(PAIRS, "any"), (PAIRS, "odd"), (large, "ma"), (large, "md")]:
            for size in [17, 39, 40]:
                many = count_with(book, mark, size)
                if many == 0:
                    continue
                drawn = [0, many - 1] + [chooser.randrange(many) for _ in range(3)]
                for index in sorted(drawn):
                    tree = tree_at(book, mark, size, index)
                    self.assertTrue(is_tree(book[0], tree))
                    self.assertEqual(size_of(tree), size)
                    self.assertTrue(has(book, mark, tree))
                    self.assertEqual(place_of(book, mark, tree), index)
                    if index + 1 < many:
                        self.assertEqual(compare_trees(book[0], tree, tree_at(book, mark, size, index + 1)), -1)
                for index in [-1, many]:
                    with self.assertRaises(Missing):
                        tree_at(book, mark, size, index)
        self.assertGreater(count_with(PAIRS, "any", 40), 10 ** 12)

    def test_all_marks_together(self):
        """The trees with a mark and those without it are all trees."""
        text = examples.FLOORS + "plain(z) if not even(x)\n".replace("z", "s(x)")
        book = read_book(text)
        more = (book[0], (*book[1], ("other", 2)), (*book[2], ("other", "x", ((False, "even", "x"),))))
        for size in range(41):
            both = count_with(more, "even", size) + count_with(more, "other", size)
            self.assertEqual(both, count_trees(book[0], size))


class ErrorTest(unittest.TestCase):
    def refused(self, error, function, *arguments):
        with self.assertRaises(error):
            function(*arguments)

    def test_without_the_mark(self):
        self.refused(NotAllowed, place_of, BOOK, "odd", ("z",))
        self.refused(NotAllowed, place_of, PAIRS, "no", ("z",))
        self.assertEqual(place_of(BOOK, "even", ("z",)), 0)

    def test_order(self):
        large = row_of_signs(40)
        for book in [BOOK, ROWS25]:
            for mark in ["no", "", "z", "s"]:
                self.refused(Missing, count_with, book, mark, 41)
                self.refused(Missing, tree_at, book, mark, -1, 0)
                self.refused(Missing, place_of, book, mark, large)
        self.refused(NotAllowed, count_with, ROWS25, "pa", 41)
        self.refused(NotAllowed, tree_at, ROWS25, "pa", 41, 0)
        self.refused(NotAllowed, tree_at, ROWS25, "pa", -1, -1)
        self.refused(NotAllowed, place_of, ROWS25, "pa", large)
        self.refused(TooLarge, count_with, ROWS25, "pa", 40)
        self.refused(TooLarge, tree_at, ROWS25, "pa", 0, -1)
        self.refused(TooLarge, place_of, ROWS25, "pa", ("z",))
        self.refused(NotAllowed, tree_at, BOOK, "odd", 41, -1)
        self.refused(Missing, tree_at, BOOK, "odd", 40, -1)

    def test_time(self):
        book = read_book(examples.LARGE_UP)
        start = time.perf_counter()
        for mark, _ in book[1]:
            many = count_with(book, mark, 39)
            if many:
                self.assertEqual(place_of(book, mark, tree_at(book, mark, 39, many // 2)), many // 2)
        self.assertLess(time.perf_counter() - start, 30)


if __name__ == "__main__":
    unittest.main()
