import functools
import math
import random
import unittest
from unittest import mock

from pergola import order
from pergola.errors import NotAllowed, TooLarge
from pergola.order import MAX_COUNTED, MAX_LISTED, compare_trees, count_trees, trees_of
from pergola.terms import is_tree, size_of

SIGNS = (("s", 1), ("z", 0), ("pair", 2))
Z = ("z",)


def size_told(tree):
    return 1 + sum(size_told(part) for part in tree[1:])


def order_told(signs, first, second):
    """The order word for word as the document tells it."""
    words = [word for word, _ in signs]
    one = (size_told(first), words.index(first[0]))
    other = (size_told(second), words.index(second[0]))
    if one != other:
        return -1 if one < other else 1
    for left, right in zip(first[1:], second[1:]):
        found = order_told(signs, left, right)
        if found:
            return found
    return 0


def all_trees(signs, size):
    """All trees of a size, in some order, found in another way than the program does."""
    found = []
    for word, arity in signs:
        if arity == 0 and size == 1:
            found.append((word,))
        if arity == 1 and size > 1:
            found += [(word, part) for part in all_trees(signs, size - 1)]
        if arity == 2:
            for left in range(size - 2, 0, -1):
                rights = all_trees(signs, size - 1 - left)
                found += [(word, a, b) for b in rights for a in all_trees(signs, left)]
    return found


def random_tree(chooser, signs, size):
    fitting = [word for word, arity in signs if (arity == 0) == (size == 1) and arity < size]
    word = chooser.choice(fitting)
    arity = dict(signs)[word]
    if arity == 0:
        return (word,)
    if arity == 1:
        return (word, random_tree(chooser, signs, size - 1))
    left = chooser.randint(1, size - 2)
    return (word, random_tree(chooser, signs, left), random_tree(chooser, signs, size - 1 - left))


class CompareTest(unittest.TestCase):
    def before(self, first, second, signs=SIGNS):
        self.assertEqual(compare_trees(signs, first, second), -1)
        self.assertEqual(compare_trees(signs, second, first), 1)

    def test_sizes_come_first(self):
        self.before(Z, ("s", Z))
        self.before(("pair", Z, Z), ("s", ("s", ("s", Z))))
        self.before(("pair", ("s", Z), Z), ("s", ("s", ("pair", Z, Z))))

    def test_signs_come_second(self):
        self.before(("s", ("s", Z)), ("pair", Z, Z))
        self.before(("pair", Z, Z), ("s", ("s", Z)), (("z", 0), ("pair", 2), ("s", 1)))
        self.before(("b",), ("a",), (("b", 0), ("a", 0)))

    def test_parts_come_third(self):
        self.before(("pair", Z, ("s", Z)), ("pair", ("s", Z), Z))
        self.before(("pair", Z, ("s", ("s", Z))), ("pair", Z, ("pair", Z, Z)))
        self.before(("pair", ("s", ("s", Z)), ("pair", Z, Z)), ("pair", ("pair", Z, Z), ("s", ("s", Z))))

    def test_sizes_of_parts_before_their_signs(self):
        signs = (("z", 0), ("pair", 2), ("s", 1))
        self.before(("pair", ("s", Z), ("pair", Z, Z)), ("pair", ("pair", Z, Z), ("s", Z)), signs)

    def test_at_the_bottom(self):
        signs = (("s", 1), ("b", 0), ("a", 0))
        first, second = ("b",), ("a",)
        for _ in range(99):
            first, second = ("s", first), ("s", second)
        self.before(first, second, signs)
        first, second = ("pair", Z, ("s", Z)), ("pair", ("s", Z), Z)
        for _ in range(97):
            first, second = ("pair", Z, first), ("pair", Z, second)
        self.assertTrue(is_tree(SIGNS, first) and is_tree(SIGNS, second))
        self.before(first, second)

    def test_the_same(self):
        first, second = Z, Z
        for _ in range(90):
            first, second = ("pair", Z, first), tuple(["pair", tuple(["z"]), second])
        self.assertIsNot(first[2], second[2])
        self.assertEqual(compare_trees(SIGNS, first, second), 0)
        self.assertEqual(compare_trees(SIGNS, Z, tuple(["z"])), 0)

    def test_against_the_document(self):
        chooser = random.Random(7)
        signs = (("b", 0), ("pair", 2), ("s", 1), ("a", 0))
        for _ in range(2000):
            size = chooser.randint(1, 9)
            first = random_tree(chooser, signs, size)
            second = random_tree(chooser, signs, size + chooser.choice([0, 0, 0, 1]))
            self.assertEqual(compare_trees(signs, first, second), order_told(signs, first, second))


class CountTest(unittest.TestCase):
    def test_example(self):
        self.assertEqual(trees_of(SIGNS, 3), [("s", ("s", Z)), ("pair", Z, Z)])
        self.assertEqual([count_trees(SIGNS, size) for size in range(6)], [0, 1, 1, 2, 4, 9])

    def test_constants(self):
        self.assertEqual((MAX_COUNTED, MAX_LISTED), (60, 2000))

    def test_sizes_that_are_not_counted(self):
        for signs in [SIGNS, (("z", 0),), (("z", 0), ("pair", 2))]:
            for size in [-100, -1, 61, 62, 1000]:
                with self.assertRaises(NotAllowed):
                    count_trees(signs, size)
                with self.assertRaises(NotAllowed):
                    trees_of(signs, size)

    def test_least_and_greatest_sizes(self):
        for signs in [SIGNS, (("z", 0),), (("a", 0), ("b", 0), ("pair", 2))]:
            self.assertEqual(count_trees(signs, 0), 0)
            self.assertEqual(trees_of(signs, 0), [])
        self.assertEqual(trees_of((("b", 0), ("s", 1), ("a", 0)), 1), [("b",), ("a",)])
        self.assertEqual(count_trees(SIGNS, 1), 1)
        self.assertEqual(count_trees((("z", 0), ("pair", 2)), 59), math.comb(58, 29) // 30)
        motzkin = [1, 1]
        for n in range(2, 60):
            motzkin.append(((2 * n + 1) * motzkin[n - 1] + (3 * n - 3) * motzkin[n - 2]) // (n + 2))
        self.assertEqual([count_trees(SIGNS, size) for size in range(1, 61)], motzkin)

    def test_no_sign_of_the_arity_one(self):
        signs = (("z", 0), ("pair", 2))
        self.assertEqual([count_trees(signs, size) for size in range(12)], [0, 1, 0, 1, 0, 2, 0, 5, 0, 14, 0, 42])
        for size in [2, 4, 30, 58, 60]:
            self.assertEqual(count_trees(signs, size), 0)
            self.assertEqual(trees_of(signs, size), [])
        self.assertEqual(len(trees_of(signs, 17)), 1430)
        with self.assertRaises(TooLarge):
            trees_of(signs, 19)

    def test_no_sign_of_the_arity_two(self):
        signs = (("a", 0), ("s", 1), ("b", 0))
        self.assertEqual([count_trees(signs, size) for size in [0, 1, 2, 3, 60]], [0, 2, 2, 2, 2])
        first, second = ("a",), ("b",)
        for _ in range(59):
            first, second = ("s", first), ("s", second)
        self.assertEqual(trees_of(signs, 60), [first, second])

    def test_only_signs_without_parts(self):
        signs = (("a", 0), ("b", 0))
        self.assertEqual([count_trees(signs, size) for size in [0, 1, 2, 3, 60]], [0, 2, 0, 0, 0])
        self.assertEqual([trees_of(signs, size) for size in [1, 2, 60]], [[("a",), ("b",)], [], []])

    def test_too_many_to_list(self):
        # No signs have just 2000 trees of a size: 1961 and 2048 are the nearest numbers.
        near = (("z", 0), ("s", 1), ("pair", 2), ("two", 2))
        self.assertEqual(count_trees(near, 9), 1961)
        self.assertEqual(len(trees_of(near, 9)), 1961)
        beyond = (("z", 0), ("s", 1), ("t", 1))
        self.assertEqual(count_trees(beyond, 12), 2048)
        self.assertEqual(len(trees_of(beyond, 11)), 1024)
        for size in [12, 13, 60]:
            with self.assertRaises(TooLarge):
                trees_of(beyond, size)
        with self.assertRaises(TooLarge):
            trees_of(SIGNS, 60)

    def test_bound_itself(self):
        signs = (("z", 0), ("s", 1), ("pair", 2), ("two", 2))
        with mock.patch.object(order, "MAX_LISTED", 1961):
            self.assertEqual(len(trees_of(signs, 9)), 1961)
        with mock.patch.object(order, "MAX_LISTED", 1960):
            with self.assertRaises(TooLarge):
                trees_of(signs, 9)

    def test_all_trees_once_and_in_order(self):
        many = [
            SIGNS,
            (("pair", 2), ("z", 0), ("s", 1)),
            (("b", 0), ("pair", 2), ("a", 0), ("two", 2)),
            (("t", 1), ("z", 0), ("s", 1), ("pair", 2)),
        ]
        for signs in many:
            for size in range(0, 7):
                found = trees_of(signs, size)
                told = sorted(
                    all_trees(signs, size), key=functools.cmp_to_key(lambda a, b: order_told(signs, a, b))
                )
                self.assertEqual(found, told)
                self.assertEqual(len(set(found)), count_trees(signs, size))
                for tree in found:
                    self.assertTrue(is_tree(signs, tree))
                    self.assertEqual(size_of(tree), size)
                for first, second in zip(found, found[1:]):
                    self.assertEqual(compare_trees(signs, first, second), -1)

    def test_list_is_new(self):
        trees_of(SIGNS, 3).clear()
        self.assertEqual(len(trees_of(SIGNS, 3)), 2)


if __name__ == "__main__":
    unittest.main()
