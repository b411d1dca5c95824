import itertools
import math
import random
import time
import unittest
from fractions import Fraction
from unittest import mock

import picks
from test_pickers import ALL, BIG, LEAF, SHAPES, SIGNS, Z
from pergola.errors import BadPaper, Missing, TooLarge
from pergola.order import trees_of
from pergola.pickers import check_picker, count_ways
from pergola.sameways import judge_same, parted_ways, same_paper
from pergola.terms import is_tree, size_of

TURNED = (2, ((0, 1), (((), (0,)), ((0,), (1,)))), (0,))
ALWAYS = (1, ((0,), (((0,),),)), (0,))
PAIR = ("pair", Z, Z)


def renamed(signs, picker, order):
    """The picker with its states in another order."""
    many, moves, goods = picker

    def entry(value, arity):
        if arity == 0:
            return tuple(sorted(order.index(state) for state in value))
        return tuple(entry(value[order[state]], arity - 1) for state in range(many))

    moves = tuple(entry(value, arity) for value, (_, arity) in zip(moves, signs))
    return many, moves, tuple(sorted(order.index(state) for state in goods))


def with_state(signs, picker):
    """The picker with one more state, which leads to all others, but to which no sign leads."""
    many, moves, goods = picker

    def entry(value, arity):
        if arity == 0:
            return value
        inner = [entry(part, arity - 1) for part in value]
        return (*inner, inner[-1])

    return many + 1, tuple(entry(value, arity) for value, (_, arity) in zip(moves, signs)), (*goods, many)


def span_told(vectors, vector):
    """The ratios with which vectors sum up to another one, and None if there are none."""
    rows = [[Fraction(other[at]) for other in vectors] + [Fraction(vector[at])] for at in range(len(vector))]
    pivots = []
    for column in range(len(vectors)):
        pivot = next((row for row in range(len(pivots), len(rows)) if rows[row][column]), None)
        if pivot is None:
            return None
        top = len(pivots)
        rows[top], rows[pivot] = rows[pivot], rows[top]
        rows[top] = [number / rows[top][column] for number in rows[top]]
        for row in range(len(rows)):
            if row != top and rows[row][column]:
                rows[row] = [one - rows[row][column] * two for one, two in zip(rows[row], rows[top])]
        pivots.append(column)
    if any(row[-1] for row in rows[len(pivots):]):
        return None
    return tuple((row[-1].numerator, row[-1].denominator) for row in rows[: len(pivots)])


def vector_told(signs, first, second, tree):
    return picks.counts_told(signs, first, tree) + picks.counts_told(signs, second, tree)


def new_told(signs, first, second, size):
    """The new trees up to a size, by going through all trees."""
    trees, vectors = [], []
    for many in range(1, size + 1):
        for tree in trees_of(signs, many):
            vector = vector_told(signs, first, second, tree)
            if span_told(vectors, vector) is None:
                trees.append(tree)
                vectors.append(vector)
    return trees


def right_told(signs, first, second, paper):
    trees, rows = paper
    if any(count_ways(signs, first, tree) != count_ways(signs, second, tree) for tree in trees):
        return False
    wholes = [(sign, *parts) for sign, arity in signs for parts in itertools.product(trees, repeat=arity)]
    if len(wholes) != len(rows) or any(len(row) != len(trees) for row in rows):
        return False
    vectors = [vector_told(signs, first, second, tree) for tree in trees]
    for whole, row in zip(wholes, rows):
        if any(below < 1 or math.gcd(above, below) != 1 for above, below in row):
            return False
        total = [sum(Fraction(*ratio) * vector[at] for ratio, vector in zip(row, vectors)) for at in range(first[0] + second[0])]
        if tuple(total) != vector_told(signs, first, second, whole):
            return False
    return True


class PartedTest(unittest.TestCase):
    def test_examples(self):
        self.assertIsNone(parted_ways(SIGNS, LEAF, TURNED))
        self.assertEqual(parted_ways(SIGNS, LEAF, ALWAYS), PAIR)
        self.assertIsNone(judge_same(SIGNS, LEAF, TURNED, same_paper(SIGNS, LEAF, TURNED)))

    def test_alike(self):
        """States in another order, a state that nobody needs, and one state as two."""
        chooser = random.Random(126)
        for _ in range(80):
            signs = chooser.choice(SHAPES)
            picker = picks.some_picker(chooser, signs, chooser.randint(1, 5), chooser.choice([0.15, 0.3]))
            order = list(range(picker[0]))
            chooser.shuffle(order)
            for other in [picker, renamed(signs, picker, order), with_state(signs, picker)]:
                self.assertIsNone(check_picker(signs, other))
                self.assertIsNone(parted_ways(signs, picker, other))
                self.assertIsNone(parted_ways(signs, other, picker))
                self.assertIsNone(judge_same(signs, picker, other, same_paper(signs, picker, other)))

    def test_one_state_as_two(self):
        """A sign leads to either of two states, each of which stands for one of the ways."""
        double = (("z", 0), ("s", 1))
        one = (1, ((0,), ((0,),)), (0,))
        two = (3, ((0,), ((1,), (0, 2), ())), (0, 1))
        self.assertIsNone(parted_ways(double, one, two))
        self.assertIsNone(judge_same(double, one, two, same_paper(double, one, two)))
        other = (2, ((0,), ((0, 1), (0,))), (0,))
        self.assertEqual(parted_ways(double, one, other), ("s", ("s", Z)))

    def test_none(self):
        never = (1, ((), (((0,),),)), (0,))
        self.assertIsNone(parted_ways(SIGNS, never, (*LEAF[:2], ())))
        self.assertEqual(parted_ways(SIGNS, never, LEAF), Z)
        self.assertEqual(same_paper(SIGNS, never, never), ((), ((),)))
        self.assertIsNone(judge_same(SIGNS, never, never, ((), ((),))))
        with self.assertRaises(BadPaper):
            judge_same(SIGNS, never, never, ((), ()))

    def test_chance(self):
        """The tree is the first one of all with other numbers; the paper has the new trees, and their only ratios."""
        chooser = random.Random(127)
        seen = {True: 0, False: 0}
        while min(seen.values()) < 60:
            signs = chooser.choice(SHAPES)
            first = picks.some_picker(chooser, signs, chooser.randint(1, 3), chooser.choice([0.2, 0.3, 0.5]))
            second = picks.some_picker(chooser, signs, chooser.randint(1, 3), chooser.choice([0.2, 0.3, 0.5]))
            if chooser.random() < 0.4:
                second = with_state(signs, first)
            found = parted_ways(signs, first, second)
            seen[found is None] += 1
            expected = None
            for size in range(1, 6):
                for tree in trees_of(signs, size):
                    if expected is None and count_ways(signs, first, tree) != count_ways(signs, second, tree):
                        expected = tree
            if found is not None:
                self.assertNotEqual(count_ways(signs, first, found), count_ways(signs, second, found))
                self.assertTrue(found == expected or (expected is None and size_of(found) > 5))
                with self.assertRaises(Missing):
                    same_paper(signs, first, second)
                continue
            self.assertIsNone(expected)
            trees, rows = same_paper(signs, first, second)
            self.assertEqual([tree for tree in trees if size_of(tree) < 6], new_told(signs, first, second, 5))
            vectors = [vector_told(signs, first, second, tree) for tree in trees]
            wholes = [(sign, *parts) for sign, arity in signs for parts in itertools.product(trees, repeat=arity)]
            self.assertEqual(list(rows), [span_told(vectors, vector_told(signs, first, second, whole)) for whole in wholes])
            self.assertIsNone(judge_same(signs, first, second, (trees, rows)))

    def test_great_trees(self):
        """The new trees may be large: here the last ones have 189 signs, and other bounds are tried."""
        pair = [[()] * 6 for _ in range(6)]
        for state in range(5):
            pair[state][state] = (state + 1,)
        line = (6, ((0,), tuple(map(tuple, pair))), (5,))
        pair[5][5] = (0,)
        circle = (6, ((0,), tuple(map(tuple, pair))), (5,))
        found = parted_ways(SIGNS, line, circle)
        self.assertEqual(size_of(found), 189)
        self.assertTrue(is_tree(SIGNS, found))
        self.assertEqual((count_ways(SIGNS, line, found), count_ways(SIGNS, circle, found)), (0, 1))
        never = [(*picker[:2], ()) for picker in (line, circle)]
        trees, _ = same_paper(SIGNS, *never)
        self.assertEqual([size_of(tree) for tree in trees], [1, 3, 7, 15, 31, 63, 127, 129, 133, 141, 157, 189])
        with mock.patch("pergola.sameways.MAX_TREE", 189):
            self.assertEqual(parted_ways(SIGNS, line, circle), found)
            self.assertEqual(same_paper(SIGNS, *never)[0], trees)
        with mock.patch("pergola.sameways.MAX_TREE", 188):
            for ask, pickers, error in [(parted_ways, (line, circle), TooLarge), (same_paper, never, TooLarge), (same_paper, (line, circle), Missing)]:
                with self.assertRaises(error):
                    ask(SIGNS, *pickers)
            self.assertIsNone(parted_ways(SIGNS, *never))

    def test_greatest(self):
        chooser = random.Random(128)
        start = time.perf_counter()
        for often in [0.02, 0.05, 0.1, 0.3, 1]:
            picker = picks.some_picker(chooser, BIG, 6, often)
            other = renamed(BIG, picker, [3, 1, 5, 0, 2, 4])
            paper = same_paper(BIG, picker, other)
            self.assertIsNone(judge_same(BIG, picker, other, paper))
            parted_ways(BIG, picker, picks.some_picker(chooser, BIG, 6, often))
        self.assertLess(time.perf_counter() - start, 5)


class JudgeTest(unittest.TestCase):
    PAPER = same_paper(SIGNS, LEAF, TURNED)

    def bad(self, paper, second=TURNED):
        with self.assertRaises(BadPaper):
            judge_same(SIGNS, LEAF, second, paper)

    def test_first_paper(self):
        rows = (((1, 1), (0, 1)), ((0, 1), (1, 1)), ((-1, 1), (2, 1)), ((-1, 1), (2, 1)), ((-2, 1), (3, 1)))
        self.assertEqual(self.PAPER, ((Z, PAIR), rows))

    def test_trees(self):
        (one, other), rows = self.PAPER
        self.bad(((), rows))
        self.bad(((one,), rows))
        self.bad(((other, one), rows))
        self.bad(((one, other, other), rows))
        self.bad(((one, one), rows))
        self.bad(((one, ("pair", other, one)), rows))
        # A tree has other numbers of ways.
        self.bad(self.PAPER, ALWAYS)
        wrong = (1, ((0,), (((0,),),)), (0,))
        self.bad(((Z,), (((1, 1),), ((1, 1),))), wrong)
        self.assertIsNone(judge_same(SIGNS, ALWAYS, wrong, ((Z,), (((1, 1),), ((1, 1),)))))

    def test_rows(self):
        trees, rows = self.PAPER
        self.bad((trees, rows[:-1]))
        self.bad((trees, (*rows, rows[-1])))
        self.bad((trees, ()))
        self.bad((trees, rows[::-1]))
        for at in range(len(rows)):
            self.bad((trees, (*rows[:at], rows[at][:1], *rows[at + 1:])))
            self.bad((trees, (*rows[:at], (*rows[at], (0, 1)), *rows[at + 1:])))
            self.bad((trees, (*rows[:at], (), *rows[at + 1:])))
            for place in range(2):
                above, below = rows[at][place]
                for ratio in [(above + 1, below), (above, below + 1), (2 * above, 2 * below), (-above, -below), (above, 0), (above, -1), (0, 0), (0, 2)]:
                    row = (*rows[at][:place], ratio, *rows[at][place + 1:])
                    if ratio != (above, below):
                        self.bad((trees, (*rows[:at], row, *rows[at + 1:])))

    def test_more_trees(self):
        """Trees that are not needed may stand there, too, with any of the ratios that are right."""
        third = ("pair", PAIR, Z)
        trees = (Z, PAIR, third)
        vectors = [vector_told(SIGNS, LEAF, TURNED, tree) for tree in trees]
        rows = []
        for whole in [Z, *[("pair", *parts) for parts in itertools.product(trees, repeat=2)]]:
            rows.append((*span_told(vectors[:2], vector_told(SIGNS, LEAF, TURNED, whole)), (0, 1)))
        self.assertIsNone(judge_same(SIGNS, LEAF, TURNED, (trees, tuple(rows))))
        # The third vector is twice the second one less the first.
        others = [((above + 1, below), (more - 2, less), (1, 1)) for (above, below), (more, less), _ in rows]
        self.assertIsNone(judge_same(SIGNS, LEAF, TURNED, (trees, tuple(others))))
        halves = [((2 * above + 1, 2), (more - 1, less), (1, 2)) for (above, below), (more, less), _ in rows]
        self.assertIsNone(judge_same(SIGNS, LEAF, TURNED, (trees, tuple(halves))))
        self.bad((trees, tuple([*halves[:-1], ((1, 3), *halves[-1][1:])])))
        self.bad((trees, tuple(rows[:-1])))

    def test_chance(self):
        chooser = random.Random(129)
        right = 0
        for _ in range(400):
            signs = chooser.choice([SIGNS, (("z", 0), ("s", 1)), ALL])
            first = picks.some_picker(chooser, signs, chooser.randint(1, 2), 0.5)
            second = with_state(signs, first) if chooser.random() < 0.7 else picks.some_picker(chooser, signs, 2, 0.5)
            try:
                trees, rows = same_paper(signs, first, second)
            except Missing:
                trees, rows = (Z,), (((1, 1),),) * sum(1 for _ in signs)
            if rows and trees and chooser.random() < 0.7:
                at, place = chooser.randrange(len(rows)), chooser.randrange(len(trees))
                row = (*rows[at][:place], (chooser.randint(-2, 2), chooser.randint(-1, 3)), *rows[at][place + 1:])
                rows = (*rows[:at], row, *rows[at + 1:])
            if right_told(signs, first, second, (trees, rows)):
                right += 1
                self.assertIsNone(judge_same(signs, first, second, (trees, rows)))
            else:
                with self.assertRaises(BadPaper):
                    judge_same(signs, first, second, (trees, rows))
        self.assertGreater(right, 80)

    def test_nothing_is_changed(self):
        before = repr((LEAF, TURNED, self.PAPER))
        judge_same(SIGNS, LEAF, TURNED, self.PAPER)
        self.assertEqual(same_paper(SIGNS, LEAF, TURNED), self.PAPER)
        self.assertEqual(repr((LEAF, TURNED, self.PAPER)), before)


if __name__ == "__main__":
    unittest.main()
