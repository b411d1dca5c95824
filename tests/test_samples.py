import random
import time
import unittest

import told
from test_readers import some_reader
from test_turners import comb
from pergola.errors import NotAllowed
from pergola.order import trees_of
from pergola.readers import read_tree
from pergola.samples import MAX_SAMPLE, check_sample, fits, is_surrounding, make, parts_of
from pergola.terms import depth_of, is_tree, size_of

SIGNS = (("z", 0), ("s", 1))
ALL = (("s", 1), ("z", 0), ("pair", 2))
Z = ("z",)
ONE = ("s", Z)
SAMPLE = ((Z, ()), (ONE, ("odd",)), (("s", ONE), ()))


def some_tree(chooser, signs, size):
    """A tree of about this size, by chance."""
    leaves = [(word,) for word, arity in signs if arity == 0]
    fitting = [(word, arity) for word, arity in signs if arity and arity < size]
    if not fitting:
        return chooser.choice(leaves)
    word, arity = chooser.choice(fitting)
    if arity == 1:
        return (word, some_tree(chooser, signs, size - 1))
    left = chooser.randint(1, size - 2)
    return (word, some_tree(chooser, signs, left), some_tree(chooser, signs, size - 1 - left))


def subtrees(tree):
    return [tree, *[inner for part in tree[1:] for inner in subtrees(part)]]


def nested(many, inner):
    for _ in range(many):
        inner = ("s", inner)
    return inner


class SurroundingTest(unittest.TestCase):
    def test_surroundings(self):
        for value in ["x", "abcdefgh", ("s", "x"), ("pair", "x", Z), ("pair", ("s", Z), ("s", ("pair", Z, "y"))), nested(199, "x")]:
            self.assertTrue(is_surrounding(ALL, value))

    def test_none(self):
        bad = [Z, ("s", Z), ("pair", Z, Z), ("pair", "x", "x"), ("pair", "x", "y"), ("pair", ("s", "x"), ("s", "x"))]
        bad += ["", "z", "s", "pair", "X", "if", "abcdefghi", "x1", (), ("x",), ("s",), ("s", "x", "y"), ("z", "x"), ("pair", "x")]
        bad += [("s", "z"), ("s", ()), ("s", ("s",)), ("no", "x"), ("pair", "x", ()), ("pair", "x", "z"), (("s", "x"),), ("s", ("x",))]
        bad += [nested(199, Z), nested(199, ()), nested(198, ("pair", "x", "x")), nested(199, "z")]
        for value in bad:
            self.assertFalse(is_surrounding(ALL, value), value)
        self.assertFalse(is_surrounding(SIGNS, ("pair", "x", Z)))

    def test_make(self):
        self.assertEqual(make(("s", ("s", "x")), Z), ("s", ("s", Z)))
        self.assertEqual(make("x", ONE), ONE)
        self.assertEqual(make(("pair", ("s", "name"), ONE), ("pair", Z, Z)), ("pair", ("s", ("pair", Z, Z)), ONE))
        self.assertEqual(make(("pair", Z, "y"), Z), ("pair", Z, Z))

    def test_make_great_trees(self):
        """What is made may be larger than a tree that functions are called with elsewhere."""
        wide = comb(199)
        made = make(("pair", wide, ("pair", "x", wide)), wide)
        self.assertEqual(size_of(made), 599)
        self.assertFalse(is_tree(ALL, made))
        deep = make(nested(100, "x"), nested(99, Z))
        self.assertEqual(depth_of(deep), 200)


class CheckTest(unittest.TestCase):
    def refused(self, *sample):
        with self.assertRaises(NotAllowed):
            check_sample(SIGNS, sample)

    def test_good(self):
        self.assertIsNone(check_sample(SIGNS, ()))
        self.assertIsNone(check_sample(SIGNS, SAMPLE))
        self.assertIsNone(check_sample(SIGNS, ((Z, ("a", "b", "c", "d", "e", "f")),)))

    def test_trees(self):
        bad = ["x", "z", "", (), ("s",), ("s", "x"), ("s", "z"), ("z", Z), ("no",), ("pair", Z, Z), ("s", ()), (Z,), nested(199, "x"), nested(199, ())]
        for value in bad:
            self.refused((value, ()))
            self.refused(*SAMPLE, (value, ()))

    def test_great_trees(self):
        """All terms without names count as trees, those of more than 400 signs too."""
        pairs = (("z", 0), ("pair", 2))
        tree = comb(199)
        for great in [("pair", tree, ("pair", tree, Z)), ("pair", tree, ("pair", tree, tree)), comb(397)]:
            self.assertIsNone(check_sample(pairs, ((great, ()), (tree, ("a",)))))
        self.assertEqual(size_of(("pair", tree, ("pair", tree, Z))), 401)
        self.assertIsNone(check_sample(SIGNS, ((nested(199, Z), ()),)))

    def test_twice(self):
        self.refused((Z, ()), (Z, ()))
        self.refused((Z, ()), (ONE, ()), (Z, ("a",)))
        self.refused(*SAMPLE, (("s", ("s", Z)), ("odd",)))

    def test_labels(self):
        for label in [("a", "a"), ("A",), ("if",), ("",), ("abcdefghi",), ("a",) * 7, ("a", "b", "c", "d", "e", "f", "g"), (" a",)]:
            self.refused((Z, label))
            self.refused((Z, ()), (ONE, label))

    def test_5000_and_5001_pairs(self):
        self.assertEqual(MAX_SAMPLE, 5000)
        signs = (("z", 0), ("o", 0), ("pair", 2))
        trees = [tree for size in range(1, 8) for tree in trees_of(signs, size)]
        every = list(dict.fromkeys([*trees, *[("pair", tree, other) for tree in trees[:75] for other in trees[:75]]]))
        self.assertGreater(len(every), 5001)
        for many in [4999, 5000, 5001]:
            sample = tuple((tree, ()) for tree in every[:many])
            if many <= 5000:
                self.assertIsNone(check_sample(signs, sample))
            else:
                with self.assertRaises(NotAllowed):
                    check_sample(signs, sample)
        with self.assertRaises(NotAllowed):
            check_sample(signs, ((Z, ()),) * 5001)


class FitsTest(unittest.TestCase):
    def test_examples(self):
        self.assertTrue(fits(SIGNS, (((), ("odd",)), (0, (1, 0))), ((ONE, ("odd",)), (("s", ONE), ()))))

    def test_fits(self):
        reader = (((), ("odd",)), (0, (1, 0)))
        self.assertIs(fits(SIGNS, reader, ()), True)
        self.assertIs(fits(SIGNS, reader, SAMPLE), True)
        self.assertIs(fits(SIGNS, reader, ((Z, ("odd",)),)), False)
        self.assertIs(fits(SIGNS, reader, (*SAMPLE, (nested(3, Z), ()))), False)
        self.assertIs(fits(SIGNS, ((("a", "b"),), (0, (0,))), ((Z, ("b", "a")),)), False)

    def test_chance(self):
        chooser = random.Random(109)
        for _ in range(60):
            reader = some_reader(chooser, ALL, chooser.randint(1, 4), 3)
            trees = list(dict.fromkeys(some_tree(chooser, ALL, chooser.randint(1, 12)) for _ in range(8)))
            sample = tuple((tree, read_tree(ALL, reader, tree)) for tree in trees)
            self.assertTrue(fits(ALL, reader, sample))
            at = chooser.randrange(len(trees))
            self.assertFalse(fits(ALL, reader, (*sample[:at], (trees[at], ("other",)), *sample[at + 1:])))


class PartsTest(unittest.TestCase):
    def test_examples(self):
        self.assertEqual(parts_of(SIGNS, ((ONE, ("odd",)),)), [Z, ONE])

    def test_parts(self):
        self.assertEqual(parts_of(SIGNS, ()), [])
        self.assertEqual(parts_of(SIGNS, ((nested(3, Z), ()), (ONE, ()))), [Z, ONE, nested(2, Z), nested(3, Z)])
        tree = ("pair", ("pair", Z, ONE), ("s", ("pair", Z, ONE)))
        self.assertEqual(parts_of(ALL, ((tree, ()),)), [Z, ONE, ("pair", Z, ONE), ("s", ("pair", Z, ONE)), tree])

    def test_order(self):
        chooser = random.Random(110)
        for _ in range(60):
            signs = chooser.choice([ALL, (("pair", 2), ("o", 0), ("z", 0)), (("z", 0), ("node", 2), ("s", 1), ("pair", 2))])
            trees = list(dict.fromkeys(some_tree(chooser, signs, chooser.randint(1, 14)) for _ in range(6)))
            parts = parts_of(signs, tuple((tree, ()) for tree in trees))
            self.assertTrue(all(told.comes_before(signs, one, other) for one, other in zip(parts, parts[1:])))
            self.assertEqual(set(parts), {part for tree in trees for part in subtrees(tree)})

    def test_great_samples(self):
        """Many great trees that share most of their parts, and many that share few."""
        chooser = random.Random(111)
        signs = (("z", 0), ("o", 0), ("pair", 2), ("node", 2))
        small = [some_tree(chooser, signs, 40) for _ in range(60)]
        shared = tuple((("pair", one, ("node", other, one)), ()) for one in small for other in small)
        start = time.perf_counter()
        self.assertIsNone(check_sample(signs, shared))
        self.assertEqual(len(parts_of(signs, shared)), 2 * 3600 + len(parts_of(signs, tuple((tree, ()) for tree in set(small)))))
        many = tuple((some_tree(chooser, signs, 100), ()) for _ in range(1500))
        self.assertIsNone(check_sample(signs, many))
        parts_of(signs, many)
        fits(signs, some_reader(chooser, signs, 24, 2), many)
        self.assertLess(time.perf_counter() - start, 12)

    def test_nothing_is_kept(self):
        first = parts_of(SIGNS, SAMPLE)
        first.clear()
        self.assertEqual(parts_of(SIGNS, SAMPLE), [Z, ONE, nested(2, Z)])
        self.assertEqual(SAMPLE, ((Z, ()), (ONE, ("odd",)), (("s", ONE), ())))


if __name__ == "__main__":
    unittest.main()
