import itertools
import random
import time
import unittest

import chance
import examples
import told
from pergola.bookreader import read_book
from pergola.errors import Missing, NotAllowed, TooLarge
from pergola.order import trees_of
from pergola.sayings import holds, true_rows
from pergola.table import marks_of, table_of
from pergola.terms import depth_of, is_tree, size_of
from pergola.treestore import Grove

TEXT = (
    "sign z 0\nsign s 1\nsign pair 2\nmark even 0\nmark odd 0\n"
    "even(z)\nodd(s(x)) if even(x)\neven(s(x)) if odd(x)\neven(pair(x, y))\n"
)
BOOK = read_book(TEXT)
Z = ("z",)
TREE = ("s", ("pair", Z, ("s", Z)))
EVEN = ("at", "even", "x")


def row_of_signs(many, tree=Z):
    for _ in range(many):
        tree = ("s", tree)
    return tree


def full(depth):
    tree = Z
    for _ in range(depth - 1):
        tree = ("pair", tree, tree)
    return tree


def subtrees(tree, path=()):
    found = {path: tree}
    for at, part in enumerate(tree[1:]):
        found.update(subtrees(part, (*path, at)))
    return found


def with_subtree(tree, path, other):
    if not path:
        return other
    at = 1 + path[0]
    return (*tree[:at], with_subtree(tree[at], path[1:], other), *tree[at + 1:])


class SlowGrove:
    """What a grove tells, word for word."""

    def __init__(self, book, tree):
        self.book = book
        self.table = table_of(book)
        self.trees = [tree]
        self.worked = sorted(subtrees(tree))

    def rows(self, tree):
        moves = self.table[1]
        return {path: told.row_told(self.book[0], moves, node, {}) for path, node in subtrees(tree).items()}

    def deed(self, tree, worked, places):
        before, behind = self.rows(self.trees[-1]), self.rows(tree)
        self.trees.append(tree)
        self.worked = {path: True for path in behind if any(path[:len(start)] == start for start in worked)}
        for place in places:
            for many in range(len(place)):
                above = place[:many]
                for at in (0, 1):
                    part = (*above, at)
                    if part in behind and part in before and behind[part] != before[part]:
                        self.worked[above] = True
        self.worked = sorted(self.worked)

    def put(self, path, tree):
        self.deed(with_subtree(self.trees[-1], path, tree), [path], [path])

    def swap(self, first, second):
        found = subtrees(self.trees[-1])
        tree = with_subtree(self.trees[-1], first, found[second])
        self.deed(with_subtree(tree, second, found[first]), [], [first, second])

    def undo(self):
        self.trees.pop()
        self.worked = []


class GroveTest(unittest.TestCase):
    def refused(self, error, function, *arguments):
        with self.assertRaises(error):
            function(*arguments)

    def test_examples(self):
        grove = Grove(BOOK, TREE)
        self.assertEqual((grove.marks_at(()), grove.paths_with("odd")), (("odd",), [(), (0, 1)]))
        self.assertIsNone(grove.put((0, 1), Z))
        self.assertEqual(grove.worked(), [(0,), (0, 1)])
        self.assertEqual(grove.least_for((0,), EVEN, "x"), ("s", Z))
        self.refused(NotAllowed, grove.swap, (0,), (0, 1))

    def test_paths(self):
        grove = Grove(BOOK, TREE)
        self.assertEqual(grove.tree(), TREE)
        for path, node in subtrees(TREE).items():
            self.assertEqual(grove.subtree(path), node)
            self.assertEqual(grove.marks_at(path), marks_of(BOOK, node))
        for path in [(1,), (0, 2), (0, -1), (-1,), (2,), (0, 0, 0), (0, 1, 0, 0), (0, 1, 1), (0, 10 ** 20), (-2,), (0, -2)]:
            self.refused(Missing, grove.subtree, path)
            self.refused(Missing, grove.marks_at, path)
            self.refused(Missing, grove.put, path, Z)
            self.refused(Missing, grove.put, path, row_of_signs(99))
            self.refused(Missing, grove.swap, path, (0, 0))
            self.refused(Missing, grove.swap, (0, 0), path)
            self.refused(Missing, grove.swap, path, path)
            self.refused(Missing, grove.least_for, path, EVEN, "z")
        self.assertEqual(grove.tree(), TREE)
        self.assertEqual(grove.worked(), [(), (0,), (0, 0), (0, 1), (0, 1, 0)])

    def test_paths_with(self):
        grove = Grove(BOOK, full(3))
        every = [(), (0,), (0, 0), (0, 1), (1,), (1, 0), (1, 1)]
        self.assertEqual(grove.paths_with("even"), every)
        self.assertEqual(grove.paths_with("odd"), [])
        for mark in ["no", "", "z", "s", "x"]:
            self.refused(Missing, grove.paths_with, mark)

    def test_paths_where(self):
        grove = Grove(BOOK, TREE)
        odd = ("at", "odd", ("s", "x"))
        self.assertEqual(grove.paths_where(odd, "x"), [(0,), (0, 0), (0, 1, 0)])
        self.assertEqual(grove.paths_where(("not", odd), "x"), [(), (0, 1)])
        self.assertEqual(grove.paths_where(("some", "x", odd), "y"), sorted(subtrees(TREE)))
        self.assertEqual(grove.paths_where(("all", "x", odd), "x"), [])
        self.assertEqual(grove.paths_where(("all", "y", ("at", "even", ("pair", "x", "y"))), "x"), sorted(subtrees(TREE)))
        three = ("all", "a", ("all", "b", ("all", "c", EVEN)))
        self.assertEqual(grove.paths_where(three, "x"), grove.paths_with("even"))

    def test_errors_of_sayings(self):
        grove = Grove(BOOK, TREE)
        four = ("all", "a", ("all", "b", ("all", "c", ("all", "d", EVEN))))
        for saying, name in [(EVEN, "z"), (EVEN, "pair"), (EVEN, ""), (EVEN, "if"), (EVEN, "X"), (four, "x"), (("at", "odd", "y"), "s")]:
            self.refused(NotAllowed, grove.paths_where, saying, name)
            self.refused(NotAllowed, grove.least_for, (), saying, name)
            self.refused(Missing, grove.least_for, (1,), saying, name)
        for saying, name in [(EVEN, "y"), (("and", EVEN, ("at", "odd", "y")), "x"), (("at", "odd", ("pair", "x", "y")), "y")]:
            self.refused(Missing, grove.paths_where, saying, name)
            self.refused(Missing, grove.least_for, (), saying, name)

    def test_least_for(self):
        grove = Grove(BOOK, TREE)
        self.assertEqual(grove.least_for((), EVEN, "x"), Z)
        self.assertEqual(grove.least_for((), ("at", "odd", "x"), "x"), ("s", Z))
        self.assertEqual(grove.least_for((0, 1), ("at", "odd", "x"), "x"), Z)
        self.assertIsNone(grove.least_for((0, 1), EVEN, "x"))
        self.assertIsNone(grove.least_for((), ("and", EVEN, ("not", EVEN)), "x"))
        self.assertEqual(grove.least_for((0,), ("some", "y", ("at", "odd", "y")), "x"), Z)
        self.assertEqual(grove.tree(), TREE)

    def test_least_for_a_great_tree(self):
        """The tree may be too great to be put there."""
        book = read_book(examples.SIZE400)
        deep = Grove(book, row_of_signs(99))
        rows, _, trees = table_of(book)
        mark = [word for word, _ in book[1] if word in rows[trees.index(max(trees, key=size_of))]]
        saying = ("and", ("at", mark[0], "x"), ("at", mark[1], "x"))
        least = deep.least_for((), saying, "x")
        self.assertEqual(size_of(least), 400)
        book = read_book("sign z 0\nsign s 1\nsign pair 2\nmark deep 0\nmark any 0\nany(x)\ndeep(s(x)) if any(x)\n")
        grove = Grove(book, row_of_signs(99))
        self.assertEqual(grove.least_for((0,) * 99, ("at", "deep", "x"), "x"), Z)

    def test_put(self):
        grove = Grove(BOOK, TREE)
        grove.put((), full(4))
        self.assertEqual(grove.worked(), sorted(subtrees(full(4))))
        grove.put((0, 0), ("s", Z))
        self.assertEqual(grove.tree(), with_subtree(full(4), (0, 0), ("s", Z)))
        self.assertEqual(grove.worked(), [(0,), (0, 0), (0, 0, 0)])
        grove.put((0, 0, 0), ("pair", Z, Z))
        self.assertEqual(grove.worked(), [(0, 0, 0), (0, 0, 0, 0), (0, 0, 0, 1)])
        grove.put((0, 0, 0), ("pair", Z, Z))
        self.assertEqual(grove.worked(), [(0, 0, 0), (0, 0, 0, 0), (0, 0, 0, 1)])

    def test_put_that_changes_all_above(self):
        grove = Grove(BOOK, row_of_signs(6))
        grove.put((0, 0, 0), row_of_signs(4))
        self.assertEqual(grove.worked(), [(0,) * many for many in range(8)])
        grove.put((0, 0, 0), row_of_signs(2))
        self.assertEqual(grove.worked(), [(0, 0, 0), (0,) * 4, (0,) * 5])

    def test_swap(self):
        tree = ("pair", ("s", ("pair", Z, Z)), ("s", Z))
        grove = Grove(BOOK, tree)
        self.assertIsNone(grove.swap((0, 0), (1, 0)))
        self.assertEqual(grove.tree(), ("pair", ("s", Z), ("s", ("pair", Z, Z))))
        self.assertEqual(grove.worked(), [])
        grove.swap((0,), (1, 0))
        self.assertEqual(grove.tree(), ("pair", ("pair", Z, Z), ("s", ("s", Z))))
        # Above the second place the rows change all the way, above the first one so does that of its own part.
        self.assertEqual(grove.worked(), [(), (1,)])
        self.assertEqual(grove.marks_at((1,)), ("even",))
        grove.swap((0, 1), (0, 0))
        self.assertEqual(grove.worked(), [])

    def test_swap_within_one_another(self):
        grove = Grove(BOOK, TREE)
        for first, second in itertools.product(subtrees(TREE), repeat=2):
            many = min(len(first), len(second))
            if first[:many] == second[:many]:
                self.refused(NotAllowed, grove.swap, first, second)
        self.assertEqual(grove.tree(), TREE)
        self.refused(Missing, grove.undo)
        grove.swap((0, 0), (0, 1))
        self.assertEqual(grove.tree(), ("s", ("pair", ("s", Z), Z)))

    def test_no_trees(self):
        """More than 400 signs, or deeper than 100: refused, and nothing is changed."""
        grove = Grove(BOOK, ("pair", row_of_signs(98), row_of_signs(10)))
        before, worked = grove.tree(), grove.worked()
        self.assertEqual(depth_of(before), 100)
        self.refused(NotAllowed, grove.put, (0,) * 99, ("s", Z))
        self.refused(NotAllowed, grove.put, (1,), row_of_signs(99))
        self.refused(NotAllowed, grove.swap, (0,) * 99, (1,))
        grove.swap((0,) * 98, (1,) + (0,) * 9)
        grove.undo()
        self.assertEqual((grove.tree(), grove.marks_at((0,))), (before, ("even",)))
        self.refused(Missing, grove.undo)
        grove.put((1,), row_of_signs(98))
        self.assertEqual(size_of(grove.tree()), 199)
        wide = ("pair", full(8), ("pair", full(7), Z))
        self.assertEqual(size_of(wide), 1 + 255 + 1 + 127 + 1)
        grove = Grove(BOOK, wide)
        grove.put((1, 1), row_of_signs(15))
        self.assertEqual(size_of(grove.tree()), 400)
        self.refused(NotAllowed, grove.put, (1, 1), row_of_signs(16))
        self.refused(NotAllowed, grove.put, (0,) * 8, ("s", Z))
        self.assertEqual(size_of(grove.tree()), 400)
        self.assertEqual(len(grove.worked()), 17)
        self.assertEqual(len(worked), 111)

    def test_undo(self):
        grove = Grove(BOOK, TREE)
        self.refused(Missing, grove.undo)
        trees = [TREE]
        for path, tree in [((0, 0), ("s", Z)), ((0,), ("s", Z)), ((), full(3)), ((1,), Z)]:
            grove.put(path, tree)
            trees.append(grove.tree())
        grove.swap((0,), (1,))
        for tree in trees[::-1]:
            self.assertIsNone(grove.undo())
            self.assertEqual(grove.tree(), tree)
            self.assertEqual(grove.worked(), [])
            for path, node in subtrees(tree).items():
                self.assertEqual(grove.marks_at(path), marks_of(BOOK, node))
        self.refused(Missing, grove.undo)
        grove.put((0, 1, 0), ("s", Z))
        self.assertEqual(grove.worked(), [(0,), (0, 1), (0, 1, 0), (0, 1, 0, 0)])

    def test_two_groves(self):
        one, other = Grove(BOOK, TREE), Grove(BOOK, TREE)
        one.put((), Z)
        self.assertEqual((one.tree(), other.tree()), (Z, TREE))
        self.refused(Missing, other.undo)
        for called in [one.worked, lambda: one.paths_with("even"), lambda: one.paths_where(EVEN, "x")]:
            called().append("more")
            self.assertEqual(called(), [()])

    def test_too_large(self):
        self.refused(TooLarge, Grove, read_book(examples.ROWS25), ("z",))
        self.refused(TooLarge, Grove, read_book(examples.SIZE401), ("z",))
        self.assertEqual(Grove(read_book(examples.ROWS24), ("z",)).worked(), [()])

    def test_chance(self):
        chooser = random.Random(71)
        tried = 0
        while tried < 60:
            book = chance.some_book(chooser)
            try:
                table = table_of(book)
            except TooLarge:
                continue
            trees = [tree for size in range(1, 6) for tree in trees_of(book[0], size)[:30]]
            tree = chooser.choice(trees)
            grove, slow = Grove(book, tree), SlowGrove(book, tree)
            for _ in range(12):
                self.some_deed(chooser, grove, slow, trees)
                self.assertEqual((grove.tree(), grove.worked()), (slow.trees[-1], slow.worked))
                rows = slow.rows(grove.tree())
                for path, row in rows.items():
                    self.assertEqual(grove.marks_at(path), table[0][row])
                mark = chooser.choice(book[1])[0]
                self.assertEqual(grove.paths_with(mark), sorted(path for path, row in rows.items() if mark in table[0][row]))
                self.some_question(chooser, book, table, grove, rows)
            tried += 1

    def some_deed(self, chooser, grove, slow, trees):
        paths = sorted(subtrees(grove.tree()))
        way = chooser.random()
        path, other = chooser.choice(paths), chooser.choice(paths)
        if way < 0.2 and len(slow.trees) > 1:
            grove.undo()
            slow.undo()
        elif way < 0.6:
            many = min(len(path), len(other))
            if path[:many] != other[:many]:
                grove.swap(path, other)
                slow.swap(path, other)
        else:
            tree = chooser.choice(trees)
            if is_tree(slow.book[0], with_subtree(grove.tree(), path, tree)) and size_of(grove.tree()) < 40:
                grove.put(path, tree)
                slow.put(path, tree)

    def some_question(self, chooser, book, table, grove, rows):
        saying = chance.some_saying(chooser, book, ["x"], 8, 2)
        good = [row for row, in true_rows(book, saying, ["x"])]
        self.assertEqual(grove.paths_where(saying, "x"), sorted(path for path, row in rows.items() if row in good))
        path = chooser.choice(sorted(rows))
        least = None
        for tree in table[2][::-1]:
            if holds(book, saying, {"x": with_subtree(grove.tree(), path, tree)}):
                least = tree
        self.assertEqual(grove.least_for(path, saying, "x"), least)

    def test_time(self):
        book = read_book(examples.LARGE_ASIDE)
        tree = ("z",)
        for many in range(6):
            tree = ("pair" if many < 3 else "node", tree, tree)
        chooser = random.Random(72)
        start = time.perf_counter()
        grove = Grove(book, ("pair", tree, tree))
        for _ in range(60):
            paths = grove.paths_where(("some", "y", ("at", "ma", ("pair", "x", "y"))), "x")
            path = chooser.choice(paths or [()])
            grove.least_for(path, ("all", "y", ("some", "v", ("at", "mb", ("node", "x", ("pair", "y", "v"))))), "x")
            try:
                grove.swap(path, chooser.choice(paths or [()]))
                grove.put(path, ("z",))
            except NotAllowed:
                pass
        self.assertLess(time.perf_counter() - start, 20)


if __name__ == "__main__":
    unittest.main()
