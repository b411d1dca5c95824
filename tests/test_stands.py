import random
import time
import unittest

import chance
import told
import turns
from test_readers import least_told, some_reader
from test_turners import ALL, DOUBLER, INS, MIXED, OUTS, PLAIN, TWO, Z, row_of_signs
from pergola.bookreader import read_book
from pergola.errors import NotAllowed, TooLarge
from pergola.order import trees_of
from pergola.readers import check_reader, least_of, least_reader, read_tree
from pergola.stands import MAX_STANDS, behind, stands_of, turned_reader
from pergola.terms import is_tree, size_of
from pergola.turners import look_of, turned

ODD = ((("odd",), ()), (0, ((1, 1), (1, 0))))
MANY = 24


def counter_of(many, last=0):
    """A reader of rows of signs that counts them up to a number; at the last state it goes on with this one."""
    return (tuple(() for _ in range(many)), (0, (*range(1, many), last)))


def ladder_reader(sizes):
    """A reader over `z`, `s` and `pair` with a state for just one tree of each size, and one for all other trees."""
    others = len(sizes)
    single = [others] * (others + 1)
    double = [[others] * (others + 1) for _ in range(others + 1)]
    for at in range(1, others):
        if sizes[at] == sizes[at - 1] + 1:
            single[at - 1] = at
        else:
            double[at - 1][at - 1] = at
    return ((),) * (others + 1), (0, tuple(single), tuple(tuple(row) for row in double))


def same(signs, looks=1):
    """The turner over signs `z` and `s` that changes nothing, with so many looks."""
    moves = (0, tuple((look + 1) % looks for look in range(looks)))
    return (signs, signs, (tuple(() for _ in range(looks)), moves), ((Z, (("s", (0, 0)),) * looks),))


class StandsTest(unittest.TestCase):
    def test_examples(self):
        self.assertEqual(stands_of(DOUBLER, ODD), [((0, (0,)), Z), ((0, (1,)), ("s", Z))])

    def test_states_that_do_not_turn(self):
        """-1 stands for a state that does not turn the tree, be it for its own side or for that of a part."""
        hole = (INS, ALL, TWO[:1] + (TWO[1][:2],), ((Z, ((0, 0), ())), (("s", Z), (("s", (0, 0)), ("s", (0, 0))))))
        reader = (((), ("odd",)), (0, (1, 0), ((0, 1), (1, 0))))
        expected = [((0, (0, 1)), Z), ((1, (0, 1)), ("s", Z)), ((0, (-1, 1)), row_of_signs(2)), ((1, (-1, -1)), row_of_signs(3))]
        expected.append(((0, (-1, -1)), row_of_signs(4)))
        self.assertEqual(stands_of(hole, reader), expected)

    def test_chance(self):
        """The stands are those of all trees, with their least trees, in the order of these."""
        chooser = random.Random(94)
        tried = 0
        while tried < 80:
            ins, outs = chooser.choice(turns.SHAPES), chooser.choice(turns.SHAPES)
            turner = turns.some_turner(chooser, ins, outs, chooser.randint(1, 2), chooser.randint(1, 2), 4)
            reader = some_reader(chooser, outs, chooser.randint(1, 3), 2)
            every = turns.closure([], ins, lambda sign, parts: turns.stand_after(turner, reader[1], sign, parts))
            if len(every) > MANY:
                with self.assertRaises(TooLarge):
                    stands_of(turner, reader)
                continue
            tried += 1
            found = stands_of(turner, reader)
            self.assertEqual(sorted(stand for stand, _ in found), sorted(every))
            trees = [tree for _, tree in found]
            self.assertTrue(all(told.comes_before(ins, one, other) for one, other in zip(trees, trees[1:])))
            firsts = {}
            for size in range(1, 6):
                for tree in trees_of(ins, size)[:30]:
                    firsts.setdefault(turns.stand_told(turner, reader, tree), tree)
            for stand, tree in found:
                if size_of(tree) < 9:
                    self.assertEqual(turns.stand_told(turner, reader, tree), stand)
                if size_of(tree) < 6 and all(len(trees_of(ins, size)) <= 30 for size in range(size_of(tree) + 1)):
                    self.assertEqual(firsts[stand], tree)

    def test_many_stands(self):
        self.assertEqual(MAX_STANDS, 24)
        for looks, states in [(1, 24), (24, 1), (8, 3), (24, 12), (3, 8), (23, 23)]:
            self.assertEqual(len(stands_of(same(INS, looks), counter_of(states))), 24 if looks != 23 else 23)
        self.assertEqual(len(stands_of(same(INS, 4), counter_of(6))), 12)
        for looks, states in [(5, 6), (5, 24), (23, 2), (23, 24)]:
            with self.assertRaises(TooLarge):
                stands_of(same(INS, looks), counter_of(states))

    def test_just_25(self):
        """A tail of looks and a circle of states make up just 24 or 25 stands."""
        for tail, circle in [(19, 6), (20, 5), (20, 6)]:
            looks = counter_of(tail, tail - 1)
            turner = (INS, INS, looks, ((Z, (Z,) * (tail - 1) + (("s", (0, 0)),)),))
            many = tail - 1 + circle
            if many <= 24:
                self.assertEqual(len(stands_of(turner, counter_of(circle))), many)
            else:
                with self.assertRaises(TooLarge):
                    stands_of(turner, counter_of(circle))
                with self.assertRaises(TooLarge):
                    behind(turner, counter_of(circle), ())

    def test_sizes_400_and_401(self):
        signs = (("z", 0), ("s", 1), ("pair", 2))
        turner = (signs, signs, (((),), (0, (0,), ((0,),))), ((Z, (("s", (0, 0)),), ((("pair", (0, 0), (0, 1)),),)),))
        found = stands_of(turner, ladder_reader([1, 2, 5, 11, 23, 24, 49, 99, 199, 399, 400]))
        self.assertEqual(max(size_of(tree) for _, tree in found), 400)
        self.assertTrue(all(is_tree(signs, tree) for _, tree in found))
        beyond = ladder_reader([1, 2, 5, 11, 23, 24, 49, 99, 199, 200, 401])
        with self.assertRaises(TooLarge):
            stands_of(turner, beyond)
        self.assertEqual(behind(turner, beyond, ()), (((),), (0, (0,), ((0,),))))

    def test_least_trees_of_more_than_400_signs(self):
        """Each state but the last one is told only by a pair of two equal ones."""
        for many, fits in [(8, True), (9, False)]:
            moves = (0, tuple(tuple(min(many, one + 1) if one == other else many for other in range(many + 1)) for one in range(many + 1)))
            reader = (((),) * (many + 1), moves)
            turner = (OUTS, OUTS, (((),), (0, ((0,),))), ((Z, ((("pair", (0, 0), (0, 1)),),)),))
            if fits:
                self.assertEqual(max(size_of(tree) for _, tree in stands_of(turner, reader)), 255)
            else:
                with self.assertRaises(TooLarge):
                    stands_of(turner, reader)
            # The readers behind do not need the trees.
            self.assertEqual(behind(turner, reader, ()), (((),), (0, ((0,),))))


class BehindTest(unittest.TestCase):
    def test_examples(self):
        self.assertEqual(behind(DOUBLER, ODD, ("none",)), ((("odd",), ()), (0, (1, 0))))
        self.assertEqual(turned_reader(DOUBLER), ((("yes",),), (0, (0,))))

    def test_labels(self):
        six = ("a", "b", "c", "d", "e", "f")
        for label in [(), ("a",), six, ("z", "s")]:
            reader = behind(MIXED, TWO, label)
            self.assertIsNone(check_reader(ALL, reader))
            self.assertEqual(read_tree(ALL, reader, row_of_signs(2)), label)
        great = (((),) * 24, (0, (*range(1, 24), 0)))
        for label in [("a", "a"), (*six, "g"), ("A",), ("if",), ("",), ("abcdefghi",), ("a", "b", "a")]:
            with self.assertRaises(NotAllowed):
                behind(MIXED, TWO, label)
            # That comes ahead of too many stands.
            with self.assertRaises(NotAllowed):
                behind(same(INS, 5), great, label)
        with self.assertRaises(TooLarge):
            behind(same(INS, 5), great, ())

    def test_all_some_and_none(self):
        none = (INS, OUTS, PLAIN, (((), ((),)),))
        self.assertEqual(turned_reader(none), (((),), (0, (0,))))
        self.assertEqual(behind(none, ODD, ("no",)), ((("no",),), (0, (0,))))
        some = (INS, OUTS, PLAIN, ((Z, ((),)),))
        self.assertEqual(turned_reader(some), ((("yes",), ()), (0, (1, 1))))
        self.assertEqual(behind(some, ODD, ("odd",)), ((("odd",),), (0, (0,))))
        self.assertEqual(behind(some, ODD, ()), ((("odd",), ()), (0, (1, 1))))

    def test_too_many_stands(self):
        """For the turned reader these are the stands for one state."""
        self.assertEqual(turned_reader(same(INS, 24)), ((("yes",),), (0, (0,))))
        # States that are turned in other places, again and again, make very many stands.
        sides = (((), (*[(0, 0)] * 11, Z, *[(1, 0)] * 12)), ((), (*[(1, 0)] * 7, Z, *[(0, 0)] * 16)))
        with self.assertRaises(TooLarge):
            turned_reader((INS, INS, counter_of(24), sides))

    def test_chance(self):
        """The reader tells of each tree what is told of what it is turned into, and is the least one that does."""
        chooser = random.Random(95)
        tried = 0
        while tried < 100:
            ins, outs = chooser.choice(turns.SHAPES), chooser.choice(turns.SHAPES)
            turner = turns.some_turner(chooser, ins, outs, chooser.randint(1, 2), chooser.randint(1, 2), 4)
            reader = some_reader(chooser, outs, chooser.randint(1, 3), 3)
            label = chooser.choice([(), ("a",), ("none",)])
            try:
                found = behind(turner, reader, label)
                yes = turned_reader(turner)
            except TooLarge:
                continue
            tried += 1
            self.assertIsNone(check_reader(ins, found))
            self.assertEqual(found, least_told(ins, found))
            self.assertEqual(yes, least_of(ins, yes))
            for size in range(1, 6):
                for tree in trees_of(ins, size)[:15]:
                    became = turns.turned_told(turner, 0, tree)
                    expected = label if became is None else told_label(outs, reader, became)
                    self.assertEqual(read_tree(ins, found, tree), expected)
                    self.assertEqual(read_tree(ins, yes, tree), () if became is None else ("yes",))

    def test_behind_marks_of_a_book(self):
        """A reader behind a turner tells the marks that a book gives to what comes of trees."""
        chooser = random.Random(96)
        tried = 0
        while tried < 30:
            book = chance.some_book(chooser, 2, 5)
            ins = chooser.choice(turns.SHAPES)
            turner = turns.some_turner(chooser, ins, book[0], 1, 2, 3, 0.1)
            mark = book[1][0][0]
            try:
                found = behind(turner, least_reader(book, (mark,)), ("none",))
                looked = behind(turner, look_of(book), ("none",))
            except TooLarge:
                continue
            tried += 1
            for size in range(1, 6):
                for tree in trees_of(ins, size)[:8]:
                    became = turned(turner, tree)
                    label = read_tree(ins, found, tree)
                    if became is None:
                        self.assertEqual(label, ("none",))
                    else:
                        self.assertEqual(label, read_tree(book[0], least_reader(book, (mark,)), became))
                        self.assertEqual(mark in read_tree(ins, looked, tree), label == (mark,))

    def test_greatest(self):
        chooser = random.Random(97)
        signs = (("z", 0), ("pair", 2), ("node", 2), ("join", 2))
        start = time.perf_counter()
        for empty in [0, 0.02, 0.5]:
            turner = turns.some_turner(chooser, signs, signs, 24, 8, 24, empty)
            for reader in [some_reader(chooser, signs, 1, 1), some_reader(chooser, signs, 24, 2)]:
                for ask in [lambda: stands_of(turner, reader), lambda: behind(turner, reader, ()), lambda: turned_reader(turner)]:
                    try:
                        ask()
                    except TooLarge:
                        pass
        self.assertLess(time.perf_counter() - start, 10)

    def test_nothing_is_changed(self):
        first = stands_of(MIXED, TWO)
        kept = list(first)
        first.clear()
        self.assertEqual(stands_of(DOUBLER, ODD), [((0, (0,)), Z), ((0, (1,)), ("s", Z))])
        self.assertEqual(stands_of(MIXED, TWO), kept)


def told_label(signs, reader, tree):
    return reader[0][told.row_told(signs, reader[1], tree, {})]


if __name__ == "__main__":
    unittest.main()
