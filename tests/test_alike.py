import random
import time
import unittest

import chance
import examples
from test_readers import some_reader
from pergola.alike import part, part_readers
from pergola.bookreader import read_book
from pergola.errors import Missing, NotAllowed, TooLarge
from pergola.order import trees_of
from pergola.readers import least_of, least_reader, read_tree
from pergola.table import marks_of, table_of
from pergola.terms import depth_of, is_tree, size_of

TEXT = "sign z 0\nsign s 1\nmark even 0\nmark odd 0\neven(z)\nodd(s(x)) if even(x)\neven(s(x)) if odd(x)\n"
BOOK = read_book(TEXT)
OTHER = read_book("sign z 0\nsign s 1\nmark m 0\nm(z)\n")
ROWS24 = read_book(examples.ROWS24)
ROWS25 = read_book(examples.ROWS25)


def ladder_of(sizes, last):
    """Two books that differ at a least tree of the last size, over the trees of a ladder of sizes."""
    first = read_book(examples.ladder(sizes))
    a, b = [("ma", "mb", "mc", "md", "me", "mf")[at] for at in pair_of(len(sizes) - 1)]
    head = ("s", "x") if last == sizes[-1] + 1 else ("pair", "x", "y")
    body = tuple((True, mark, name) for name in head[1:] for mark in (a, b))
    rules = tuple((mark, head, body) for mark in ("ma", "mb"))
    return first, (first[0], first[1], (*first[2], *rules))


def pair_of(number):
    return [(at, other) for at in range(6) for other in range(at + 1, 6)][number]


class PartTest(unittest.TestCase):
    def refused(self, error, *arguments):
        with self.assertRaises(error):
            part(*arguments)

    def test_examples(self):
        self.assertEqual(part(BOOK, OTHER, [("even", "m")]), ("s", ("s", ("z",))))
        self.assertIsNone(part(BOOK, BOOK, [("even", "even"), ("odd", "odd")]))

    def test_pairs(self):
        z = ("z",)
        self.assertIsNone(part(BOOK, OTHER, []))
        self.assertEqual(part(BOOK, OTHER, [("odd", "m")]), z)
        self.assertEqual(part(BOOK, OTHER, [("odd", "m"), ("even", "m")]), z)
        self.assertEqual(part(BOOK, OTHER, [("even", "m"), ("even", "m")]), ("s", ("s", z)))
        self.assertEqual(part(BOOK, BOOK, [("even", "odd")]), z)
        self.assertEqual(part(OTHER, BOOK, [("m", "even")]), ("s", ("s", z)))
        self.assertEqual(part(OTHER, BOOK, [("m", "even"), ("m", "odd")]), z)
        self.assertIsNone(part(BOOK, BOOK, [("even", "even")] * 30))

    def test_errors_in_order(self):
        turned = (BOOK[0][::-1], *BOOK[1:])
        self.refused(NotAllowed, BOOK, turned, [("no", "no")])
        self.refused(NotAllowed, ROWS25, BOOK, [("no", "no")])
        self.refused(NotAllowed, BOOK, (BOOK[0] + (("t", 1),), *BOOK[1:]), [])
        self.refused(Missing, BOOK, OTHER, [("m", "m")])
        self.refused(Missing, BOOK, OTHER, [("even", "even")])
        self.refused(Missing, BOOK, OTHER, [("even", "m"), ("odd", "")])
        self.refused(Missing, BOOK, OTHER, [("z", "m")])
        self.refused(Missing, ROWS25, ROWS24, [("pa", "pa"), ("pa", "no")])
        self.refused(TooLarge, ROWS25, ROWS24, [("pa", "pa")])
        self.refused(TooLarge, ROWS24, ROWS25, [("pa", "pa")])
        self.refused(TooLarge, ROWS24, ROWS25, [])
        size401 = read_book(examples.SIZE401)
        self.refused(TooLarge, size401, size401, [])

    def test_sizes_400_and_401(self):
        every = [(f"m{letter}", f"m{letter}") for letter in "abcdef"]
        start = [1, 2, 5, 11, 23, 24, 49, 99, 199]
        for sizes, last in [([*start, 399], 400), ([*start, 200], 401)]:
            first, second = ladder_of(sizes, last)
            for one, other in [(first, second), (second, first)]:
                if last == 400:
                    found = part(one, other, every)
                    self.assertEqual(size_of(found), 400)
                    self.assertTrue(is_tree(one[0], found))
                    self.assertNotEqual(marks_of(one, found), marks_of(other, found))
                else:
                    self.refused(TooLarge, one, other, every)
            self.assertIsNone(part(first, first, every))
            self.assertIsNone(part(first, second, []))

    def test_chance(self):
        """The tree is the first one of all that parts; where there is none, none of a small size does."""
        chooser = random.Random(54)
        found = {True: 0, False: 0}
        while min(found.values()) < 60:
            first = chance.some_book(chooser)
            rules = tuple(chance.some_rule(chooser, first[0], first[1], pair) for pair in first[1])
            second = (*first[:2], first[2][: chooser.randint(0, len(first[2]))] + rules[: chooser.randint(0, 1)])
            words = [mark for mark, _ in first[1]]
            pairs = [(word, word) for word in words if chooser.random() < 0.8]
            try:
                tables = [table_of(first), table_of(second)]
            except TooLarge:
                continue
            told = part(first, second, pairs)
            least = None
            for size in range(1, 6):
                for tree in trees_of(first[0], size):
                    one, other = marks_of(first, tree), marks_of(second, tree)
                    if least is None and any((mark in one) != (word in other) for mark, word in pairs):
                        least = tree
            if least is not None or told is None:
                self.assertEqual(told, least)
            else:
                self.assertGreater(size_of(told), 5)
                one, other = marks_of(first, told), marks_of(second, told)
                self.assertTrue(any((mark in one) != (word in other) for mark, word in pairs))
                self.assertLess(depth_of(told), len(tables[0][0]) + len(tables[1][0]))
            found[told is None] += 1

    def test_nothing_is_changed(self):
        pairs = [("even", "m")]
        part(BOOK, OTHER, pairs)
        self.assertEqual(pairs, [("even", "m")])


class PartReadersTest(unittest.TestCase):
    def test_small(self):
        signs = (("z", 0), ("s", 1))
        odd = (((), ("odd",)), (0, (1, 0)))
        slow = (((), ("odd",), (), ("odd",)), (0, (1, 2, 3, 0)))
        three = (((), ("odd",), ()), (0, (1, 2, 0)))
        z = ("z",)
        self.assertIsNone(part_readers(signs, odd, slow))
        self.assertIsNone(part_readers(signs, slow, odd))
        for one, other in [(odd, three), (three, odd), (slow, three), (three, slow)]:
            self.assertEqual(part_readers(signs, one, other), ("s", ("s", ("s", z))))
        self.assertEqual(part_readers(signs, odd, (((),), (0, (0,)))), ("s", z))
        self.assertEqual(part_readers(signs, odd, ((("odd",),), (0, (0,)))), z)
        # Labels are tuples: the order of their words counts.
        self.assertEqual(part_readers(signs, ((("a", "b"),), (0, (0,))), ((("b", "a"),), (0, (0,)))), z)

    def test_states_of_no_tree(self):
        signs = (("z", 0), ("s", 1))
        one = (((), ("odd",), ("no",)), (0, (1, 0, 1)))
        other = ((("odd",), ("some",), ()), (2, (2, 1, 0)))
        self.assertIsNone(part_readers(signs, one, other))

    def test_chance(self):
        chooser = random.Random(55)
        found = {True: 0, False: 0}
        for _ in range(400):
            signs = chooser.choice(chance.SHAPES)
            one = some_reader(chooser, signs, chooser.randint(1, 5), chooser.randint(1, 3))
            other = some_reader(chooser, signs, chooser.randint(1, 5), chooser.randint(1, 3))
            if chooser.random() < 0.3:
                other = least_of(signs, one)
            told = part_readers(signs, one, other)
            back = part_readers(signs, other, one)
            self.assertEqual(told, back)
            self.assertEqual(told is None, least_of(signs, one) == least_of(signs, other))
            trees = [tree for size in range(1, 5) for tree in trees_of(signs, size)]
            parting = [tree for tree in trees if read_tree(signs, one, tree) != read_tree(signs, other, tree)]
            if parting or told is None:
                self.assertEqual(told, parting[0] if parting else None)
            else:
                self.assertNotEqual(read_tree(signs, one, told), read_tree(signs, other, told))
                self.assertGreater(size_of(told), 4)
            found[told is None] += 1
        self.assertGreater(min(found.values()), 50)

    def test_deepest(self):
        """Two rings of 24 and 23 states that agree for 45 trees, as a row of labels that has both periods tells."""
        signs = (("z", 0), ("s", 1))
        groups = list(range(45))
        for one in range(45):
            for other in (one + 23, one + 24):
                if other < 45:
                    groups = [groups[one] if group == groups[other] else group for group in groups]
        labels = [("a",) if group == groups[0] else () for group in groups]
        self.assertEqual(len(set(groups)), 2)
        rings = [(tuple(labels[:many]), (0, (*range(1, many), 0))) for many in (24, 23)]
        self.assertEqual(depth_of(part_readers(signs, *rings)), 46)
        self.assertEqual(depth_of(part_readers(signs, *rings[::-1])), 46)

    def test_too_large(self):
        """The least tree has more than 400 signs: a tree of equal parts, ten or more times over."""
        signs = (("z", 0), ("pair", 2))

        def reader(many, label):
            moves = tuple(tuple(min(many - 1, one + 1) if one == other else 0 for other in range(many)) for one in range(many))
            return (((),) * (many - 1) + (label,), (0, moves))

        self.assertEqual(size_of(part_readers(signs, reader(8, ("a",)), reader(8, ("b",)))), 255)
        for many in [9, 16, 24]:
            with self.assertRaises(TooLarge):
                part_readers(signs, reader(many, ("a",)), reader(many, ("b",)))
            self.assertIsNone(part_readers(signs, reader(many, ("a",)), reader(many, ("a",))))

    def test_time(self):
        chooser = random.Random(56)
        signs = (("z", 0), ("s", 1), ("pair", 2), ("node", 2))
        start = time.perf_counter()
        for _ in range(20):
            one = some_reader(chooser, signs, 24, 1)
            other = some_reader(chooser, signs, 24, 1)
            self.assertIsNone(part_readers(signs, one, other))
        large = [read_book(text) for text in (examples.LARGE_UP, examples.LARGE_ASIDE)]
        for book in large:
            words = [mark for mark, _ in book[1]]
            self.assertIsNone(part(book, book, [(word, word) for word in words]))
            reader = least_reader(book, tuple(words))
            self.assertIsNone(part_readers(book[0], reader, reader))
        self.assertLess(time.perf_counter() - start, 20)


if __name__ == "__main__":
    unittest.main()
