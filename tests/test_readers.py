import itertools
import random
import time
import unittest

import chance
import examples
import told
from pergola.bookreader import read_book
from pergola.errors import NotAllowed, TooLarge
from pergola.order import trees_of
from pergola.readers import MAX_LABEL, MAX_STATES, check_reader, least_of, least_reader, read_tree
from pergola.table import marks_of, table_of

BOOK = read_book("sign z 0\nsign s 1\nmark even 0\nmark odd 0\neven(z)\nodd(s(x)) if even(x)\neven(s(x)) if odd(x)\n")
SIGNS = (("z", 0), ("s", 1), ("pair", 2))
ODD = (((), ("odd",)), (0, (1, 0), ((0, 1), (1, 0))))
ROWS24 = read_book(examples.ROWS24)
ROWS25 = read_book(examples.ROWS25)


def some_reader(chooser, signs, states, labels):
    """A reader by chance, with labels among so many."""
    words = [(), ("a",), ("b", "a"), ("odd",), ("z", "s")][:labels]

    def entry(arity):
        if arity == 0:
            return chooser.randrange(states)
        return tuple(entry(arity - 1) for _ in range(states))

    return tuple(chooser.choice(words) for _ in range(states)), tuple(entry(arity) for _, arity in signs)


def least_trees(signs, reader):
    """The least trees of the states that trees have, each as its size, its sign and its parts, in order."""
    found = []
    known = {}
    while True:
        best = None
        for sign, (_, arity) in enumerate(signs):
            for parts in itertools.product(range(len(found)), repeat=arity):
                state = told.moved(reader[1][sign], [found[part][2] for part in parts])
                key = (1 + sum(found[part][0] for part in parts), sign, parts)
                if state not in known and (best is None or key < best[0]):
                    best = (key, state)
        if best is None:
            return [state for _, _, state in found]
        known[best[1]] = True
        found.append((best[0][0], best[0], best[1]))


def apart(signs, reader, states):
    """The pairs of states that some surrounding leads to different labels."""
    labels, moves = reader
    pairs = {(one, other) for one in states for other in states if labels[one] != labels[other]}
    grown = True
    while grown:
        before = set(pairs)
        for entry, (_, arity) in zip(moves, signs):
            for one, other in itertools.product(states, repeat=2):
                for rest in itertools.product(states, repeat=arity - 1) if arity else ():
                    for at in range(arity):
                        left = told.moved(entry, (*rest[:at], one, *rest[at:]))
                        right = told.moved(entry, (*rest[:at], other, *rest[at:]))
                        if (left, right) in before:
                            pairs.add((one, other))
        grown = before != pairs
    return pairs


def least_told(signs, reader):
    labels, moves = reader
    states = least_trees(signs, reader)
    pairs = apart(signs, reader, states)
    firsts = [state for at, state in enumerate(states) if all((state, other) in pairs for other in states[:at])]

    def number(state):
        return [at for at, first in enumerate(firsts) if (first, state) not in pairs][0]

    def entry(value, arity):
        if arity == 0:
            return number(value)
        return tuple(entry(value[first], arity - 1) for first in firsts)

    return tuple(labels[state] for state in firsts), tuple(entry(value, arity) for value, (_, arity) in zip(moves, signs))


class CheckTest(unittest.TestCase):
    def refused(self, signs, reader):
        with self.assertRaises(NotAllowed):
            check_reader(signs, reader)

    def with_moves(self, moves):
        return (((), ("odd",)), moves)

    def test_good(self):
        self.assertIsNone(check_reader(SIGNS, ODD))
        self.assertIsNone(check_reader((("z", 0),), (((),), (0,))))
        self.assertEqual((MAX_STATES, MAX_LABEL), (24, 6))

    def test_states(self):
        for many in [0, 1, 2, 23, 24, 25, 26]:
            labels = (("a",),) * many
            reader = (labels, (0, (0,) * many, ((0,) * many,) * many))
            if 1 <= many <= 24:
                self.assertIsNone(check_reader(SIGNS, reader))
            else:
                self.refused(SIGNS, reader)
        self.refused(SIGNS, ((), ()))
        self.refused((("z", 0),), ((), (0,)))

    def test_labels(self):
        def reader(*words):
            return ((tuple(words),), (0,))

        signs = (("z", 0),)
        six = ["a", "b", "c", "d", "e", "f"]
        self.assertIsNone(check_reader(signs, reader()))
        self.assertIsNone(check_reader(signs, reader(*six)))
        self.assertIsNone(check_reader(signs, reader("z", "abcdefgh", "to")))
        self.refused(signs, reader(*six, "g"))
        self.refused(signs, reader("a", "a"))
        self.refused(signs, reader("a", "b", "a"))
        for word in ["", "A", "if", "end", "abcdefghi", "a b", "a1", "not", " a"]:
            self.refused(signs, reader(word))
            self.refused(signs, reader("a", word))
        self.assertIsNone(check_reader(signs, (((), (), ("a",), ("a",)), (3,))))

    def test_moves(self):
        good = ODD[1]
        self.assertIsNone(check_reader(SIGNS, self.with_moves(good)))
        self.refused(SIGNS, self.with_moves(()))
        self.refused(SIGNS, self.with_moves(good[:2]))
        self.refused(SIGNS, self.with_moves((*good, 0)))
        self.refused(SIGNS, self.with_moves((good[1], good[0], good[2])))
        for entry in [-1, 2, (0,), (0, 0), ((0, 0), (0, 0)), ()]:
            self.refused(SIGNS, self.with_moves((entry, *good[1:])))
        for entry in [0, (), (0,), (0, 0, 0), (0, 2), (-1, 0), ((0, 0), (0, 0)), ((0,), (0,)), (0, (0,)), ((), 0)]:
            self.refused(SIGNS, self.with_moves((good[0], entry, good[2])))
        pairs = [0, (0, 0), ((0, 1),), ((0, 1), (1, 0), (0, 0)), ((0, 1), (1,)), ((0, 1), (1, 0, 0)), ((0, 1), 1)]
        pairs += [((0, 1), (1, 2)), ((-1, 1), (1, 0)), (((0, 1), (0, 1)), (1, 0)), ((0, (1,)), (1, 0)), ((), ())]
        for entry in pairs:
            self.refused(SIGNS, self.with_moves((good[0], good[1], entry)))


class ReadTest(unittest.TestCase):
    def test_examples(self):
        self.assertEqual(least_reader(BOOK, ("odd",)), (((), ("odd",)), (0, (1, 0))))
        self.assertEqual(read_tree(BOOK[0], least_reader(BOOK, ("odd", "even")), ("s", ("s", ("z",)))), ("even",))
        self.assertEqual(least_reader(BOOK, ()), (((),), (0, (0,))))

    def test_read(self):
        z = ("z",)
        self.assertEqual(read_tree(SIGNS, ODD, z), ())
        self.assertEqual(read_tree(SIGNS, ODD, ("pair", ("s", z), z)), ("odd",))
        self.assertEqual(read_tree(SIGNS, ODD, ("pair", ("s", z), ("s", z))), ())
        deep = z
        for _ in range(99):
            deep = ("s", deep)
        self.assertEqual(read_tree(SIGNS, ODD, deep), ("odd",))


class LeastTest(unittest.TestCase):
    def test_alike_states(self):
        """States that are alike become one."""
        reader = (((), ("odd",), (), ("odd",)), (0, (1, 2, 3, 0)))
        self.assertEqual(least_of((("z", 0), ("s", 1)), reader), (((), ("odd",)), (0, (1, 0))))

    def test_states_of_no_tree(self):
        reader = ((("no",), (), ("odd",), ("more",)), (1, (3, 2, 1, 0)))
        self.assertEqual(least_of((("z", 0), ("s", 1)), reader), (((), ("odd",)), (0, (1, 0))))

    def test_told_apart_only_beside_states_that_trees_have(self):
        """The state 2 differs from the state 0 only beside the state 3, which no tree has."""
        pair = ((1, 1, 1, 1), (2, 2, 2, 2), (1, 1, 1, 0), (0, 0, 0, 0))
        reader = (((), ("odd",), (), ("last",)), (0, pair))
        least = least_of((("z", 0), ("pair", 2)), reader)
        self.assertEqual(least, (((), ("odd",)), (0, ((1, 1), (0, 0)))))

    def test_told_apart_in_one_place_only(self):
        """The states 0 and 1 lead to different labels in the first place of a pair, or in the second one, alone."""
        left = ((2, 2, 2, 2), (3, 3, 3, 3), (2, 2, 2, 2), (2, 2, 2, 2))
        right = tuple(zip(*left))
        signs = (("z", 0), ("o", 0), ("pair", 2))
        for moves in [left, right]:
            reader = (((), (), (), ("end",)), (0, 1, moves))
            self.assertEqual(least_of(signs, reader), least_told(signs, reader))
            self.assertEqual(len(least_of(signs, reader)[0]), 3)

    def test_order_of_states(self):
        """States are numbered by their least trees, by size first, then by the order of the signs."""
        reader = ((("a",), ("b",), ("c",), ()), (2, 0, (1, 3, 1, 3)))
        self.assertEqual(least_of((("z", 0), ("o", 0), ("s", 1)), reader), ((("c",), ("a",), ("b",), ()), (0, 1, (2, 2, 3, 3))))

    def test_chance(self):
        chooser = random.Random(51)
        shrunk = 0
        for _ in range(300):
            signs = chooser.choice(chance.SHAPES)
            reader = some_reader(chooser, signs, chooser.randint(1, 6), chooser.randint(1, 3))
            least = least_of(signs, reader)
            self.assertEqual(least, least_told(signs, reader))
            self.assertIsNone(check_reader(signs, least))
            self.assertEqual(least_of(signs, least), least)
            shrunk += len(least[0]) < len(reader[0])
            for size in range(1, 6):
                for tree in trees_of(signs, size):
                    self.assertEqual(read_tree(signs, least, tree), read_tree(signs, reader, tree))
        self.assertGreater(shrunk, 50)

    def test_great_readers(self):
        chooser = random.Random(52)
        signs = (("z", 0), ("s", 1), ("pair", 2), ("node", 2))
        start = time.perf_counter()
        for labels in [1, 2, 5]:
            for _ in range(10):
                reader = some_reader(chooser, signs, 24, labels)
                least = least_of(signs, reader)
                self.assertEqual(least_of(signs, least), least)
        self.assertLess(time.perf_counter() - start, 10)

    def test_a_row_of_states(self):
        """Each state is told from the others only by the last one, and the least trees grow to great sizes."""
        moves = (0, tuple(tuple(min(23, one + 1) if one == other else 0 for other in range(24)) for one in range(24)))
        reader = (((),) * 23 + (("end",),), moves)
        self.assertEqual(least_of((("z", 0), ("pair", 2)), reader), reader)


class MarksTest(unittest.TestCase):
    def test_orders_of_marks(self):
        book = read_book(examples.FLOORS)
        words = [mark for mark, _ in book[1]]
        for many in range(4):
            for marks in itertools.permutations(words, many):
                reader = least_reader(book, marks)
                self.assertIsNone(check_reader(book[0], reader))
                self.assertEqual(least_of(book[0], reader), reader)
                for size in range(1, 6):
                    for tree in trees_of(book[0], size)[:6]:
                        row = marks_of(book, tree)
                        label = tuple(mark for mark in marks if mark in row)
                        self.assertEqual(read_tree(book[0], reader, tree), label)

    def test_wrong_marks(self):
        for marks in [("no",), ("",), ("odd", "odd"), ("odd", "even", "odd"), ("odd", "z"), ("x",)]:
            with self.assertRaises(NotAllowed):
                least_reader(BOOK, marks)
            with self.assertRaises(NotAllowed):
                least_reader(ROWS25, marks)

    def test_great_books(self):
        marks = tuple(mark for mark, _ in ROWS24[1])
        rows, moves, _ = table_of(ROWS24)
        self.assertEqual(least_reader(ROWS24, marks), (rows, moves))
        self.assertEqual(least_reader(ROWS24, marks[::-1])[0], tuple(row[::-1] for row in rows))
        self.assertEqual(least_reader(ROWS24, ()), (((),), (0, (0,), (0,), (0,))))
        with self.assertRaises(TooLarge):
            least_reader(ROWS25, marks)
        with self.assertRaises(TooLarge):
            least_reader(ROWS25, ())
        with self.assertRaises(TooLarge):
            least_reader(read_book(examples.SIZE401), ("ma",))

    def test_chance(self):
        chooser = random.Random(53)
        tried = 0
        while tried < 60:
            book = chance.some_book(chooser)
            try:
                rows, moves, _ = table_of(book)
            except TooLarge:
                continue
            marks = [mark for mark, _ in book[1]]
            chooser.shuffle(marks)
            marks = tuple(marks[: chooser.randint(0, len(marks))])
            labels = tuple(tuple(mark for mark in marks if mark in row) for row in rows)
            if len(rows) <= 8:
                self.assertEqual(least_reader(book, marks), least_told(book[0], (labels, moves)))
                tried += 1


if __name__ == "__main__":
    unittest.main()
