import random
import time
import unittest

import examples
import turns
from pergola.bookreader import read_book
from pergola.errors import Missing, NotAllowed, TooLarge
from pergola.order import trees_of
from pergola.readers import check_reader, read_tree
from pergola.table import marks_of, table_of
from pergola.terms import depth_of, is_tree, size_of
from pergola.turners import MAX_PIECE, MAX_TURNING, check_turner, counts_at, look_of, size_turned, turned

INS = (("z", 0), ("s", 1))
OUTS = (("z", 0), ("pair", 2))
PLAIN = (((),), (0, (0,)))
DOUBLER = (INS, OUTS, PLAIN, ((("z",), (("pair", (0, 0), (0, 0)),)),))
Z = ("z",)
# Signs and a reader of all arities, with two looks.
ALL = (("z", 0), ("s", 1), ("pair", 2))
TWO = (((), ("odd",)), (0, (1, 0), ((0, 1), (1, 0))))
# It exchanges the parts of pairs whose parts look alike, drops odd first parts, and makes nothing of odd trees over a sign.
MIXED = (
    ALL,
    ALL,
    TWO,
    (
        (Z, (("s", (1, 0)), ()), ((("pair", (0, 1), (0, 0)), (0, 0)), ((1, 1), ("pair", Z, Z)))),
        (("s", Z), ((1, 0), (0, 0)), (((0, 0), (0, 1)), ((), (1, 1)))),
    ),
)


def row_of_signs(many, tree=Z):
    for _ in range(many):
        tree = ("s", tree)
    return tree


def chain(many, piece):
    for _ in range(many):
        piece = ("s", piece)
    return piece


def comb(size):
    """A tree of pairs of this odd size, as deep as it may be."""
    tree = Z
    for _ in range(size // 2):
        tree = ("pair", tree, Z)
    return tree


class CheckTest(unittest.TestCase):
    def refused(self, turner):
        with self.assertRaises(NotAllowed):
            check_turner(turner)

    def with_sides(self, *sides):
        return (INS, ALL, PLAIN, sides)

    def one_side(self, side):
        """The turner with this side of a single state over a sign with one part."""
        return self.with_sides((Z, (side,)))

    def test_good(self):
        self.assertIsNone(check_turner(DOUBLER))
        self.assertIsNone(check_turner(MIXED))
        self.assertIsNone(check_turner(self.one_side(())))
        self.assertIsNone(check_turner(self.with_sides(((), ((),)))))
        self.assertEqual((MAX_PIECE, MAX_TURNING), (24, 8))

    def test_signs(self):
        for bad in [(), (("s", 1),), (("z", 0), ("z", 1)), (("z", 3),), (("z", -1),), (("if", 0),), (("Z", 0),)]:
            self.refused((bad, *DOUBLER[1:]))
            self.refused((INS, bad, PLAIN, DOUBLER[3]))
        five = tuple((word, 0) for word in "abcde")
        self.refused((INS, five, PLAIN, DOUBLER[3]))
        self.refused((five, OUTS, (((),), (0,) * 5), ((Z,) * 5,)))
        four = five[:4]
        self.assertIsNone(check_turner((four, four, (((),), (0,) * 4), ((("a",), ("b",), (), ("d",)),))))

    def test_reader(self):
        """The reader is one over the signs of the trees that are turned."""
        self.refused((INS, OUTS, (((),), (0, ((0,),))), DOUBLER[3]))
        self.refused((INS, OUTS, (((),), (0,)), DOUBLER[3]))
        self.refused((INS, OUTS, ((), (0, ())), DOUBLER[3]))
        self.refused((INS, OUTS, (((),), (0, (1,))), DOUBLER[3]))
        self.refused((INS, OUTS, ((("a", "a"),), (0, (0,))), DOUBLER[3]))
        self.refused((INS, OUTS, (((),) * 25, (0, (0,) * 25)), ((Z, (Z,) * 25),)))
        self.assertIsNone(check_turner((INS, OUTS, (((),) * 24, (0, (0,) * 24)), ((Z, (Z,) * 24),))))

    def test_states(self):
        entries = DOUBLER[3][0]
        for many in [0, 1, 2, 7, 8, 9, 10]:
            turner = self.with_sides(*[entries] * many)
            if 1 <= many <= 8:
                self.assertIsNone(check_turner(turner))
            else:
                self.refused(turner)

    def test_entries(self):
        good = DOUBLER[3][0]
        for entries in [(), good[:1], (*good, Z), (good[1], good[0]), (Z, Z), ((Z,), (Z,)), (Z, ()), (Z, (Z, Z)), 0, "zs", (Z, "z"), (Z, 0)]:
            self.refused(self.with_sides(entries))
            self.refused(self.with_sides(good, entries))
        entry = MIXED[3][0][2]
        for bad in [entry[:1], (*entry, entry[0]), (entry[0], entry[1][:1]), (entry[0], (*entry[1], Z)), Z, (Z, Z), (entry[0], 0), (entry[0], "zz")]:
            self.refused((*MIXED[:3], ((*MIXED[3][0][:2], bad), MIXED[3][1])))
        for bad in [(Z,), (Z, Z, Z), ((Z,), (Z,)), ("z", Z), (0, Z)]:
            self.refused((*MIXED[:3], ((Z, bad, MIXED[3][0][2]), MIXED[3][1])))

    def test_sides(self):
        """A side is empty or a piece, whose signs are those of the outs and whose calls are of states and parts that there are."""
        for side in [(), Z, (0, 0), ("s", (0, 0)), ("pair", (0, 0), Z), ("pair", ("s", Z), ("pair", (0, 0), (0, 0)))]:
            self.assertIsNone(check_turner(self.one_side(side)))
        bad = [0, "z", "", ("x",), ("y",), ("z", Z), ("s",), ("s", Z, Z), ("pair", Z), ("pair", Z, Z, Z), ("s", ()), ("s", "z"), ("s", 0)]
        bad += [(0,), (0, 0, 0), (0, 1), (1, 0), (-1, 0), (0, -1), (0, "z"), (0, Z), ((0, 0),), ((0, 0), (0, 0)), (Z,), (Z, Z), ("pair", 0, 0)]
        bad += [("pair", (0, 0), (0, 1)), ("pair", (1, 0), Z), ("pair", Z, ("s", ("no",))), ("pair", Z, ()), ("", Z), ("s", ("pair", Z))]
        for side in bad:
            self.refused(self.one_side(side))
        # A sign of the ins that is none of the outs; a call at a sign without parts.
        self.refused((INS, OUTS, PLAIN, ((Z, (("s", Z),)),)))
        self.refused(self.with_sides(((0, 0), (Z,))))
        self.refused(self.with_sides((("s", (0, 0)), (Z,))))
        # Calls of the second part, and of the second state.
        self.assertIsNone(check_turner((OUTS, OUTS, (((),), (0, ((0,),))), ((Z, (((1, 1),),)), (Z, (((0, 1),),))))))
        self.refused((OUTS, OUTS, (((),), (0, ((0,),))), ((Z, (((1, 2),),)), (Z, (((0, 1),),)))))
        self.refused((OUTS, OUTS, (((),), (0, ((0,),))), ((Z, (((2, 1),),)), (Z, (((0, 1),),)))))

    def test_sizes(self):
        for last in [Z, (0, 0)]:
            self.assertIsNone(check_turner(self.one_side(chain(23, last))))
            self.refused(self.one_side(chain(24, last)))
        for many, extra in [(11, 1), (11, 0), (12, 0)]:
            piece = (0, 0)
            for _ in range(many):
                piece = ("pair", piece, (0, 0))
            piece = chain(extra, piece)
            if many < 12:
                self.assertIsNone(check_turner(self.one_side(piece)))
            else:
                self.refused(self.one_side(piece))

    def test_nested_deep(self):
        for inner in [(), Z, 0, "z", (0, 0)]:
            value = inner
            for _ in range(58):
                value = (value,)
            self.refused(self.one_side(value))
            self.refused(self.with_sides(value))
            self.refused(self.one_side(chain(55, inner)))


class TurnTest(unittest.TestCase):
    def test_examples(self):
        self.assertEqual(turned(DOUBLER, ("s", ("s", Z))), ("pair", ("pair", Z, Z), ("pair", Z, Z)))
        self.assertEqual(size_turned(DOUBLER, ("s", ("s", Z))), 7)
        self.assertEqual(counts_at(DOUBLER, ("s", ("s", Z)), (0, 0)), (4,))

    def test_by_hand(self):
        one = ("s", Z)
        self.assertEqual(turned(MIXED, Z), Z)
        self.assertEqual(turned(MIXED, one), ("s", ("s", Z)))
        self.assertIsNone(turned(MIXED, ("s", one)))
        # Both parts look even, so they are exchanged; the pair of an even and an odd part is its first part.
        self.assertEqual(turned(MIXED, ("pair", ("pair", one, one), Z)), ("pair", Z, ("pair", Z, Z)))
        self.assertEqual(turned(MIXED, ("pair", Z, one)), Z)
        self.assertEqual(turned(MIXED, ("pair", one, Z)), ("s", Z))

    def test_not_turned(self):
        """A tree is not turned if its side is empty, or if a part that is called is not turned; other parts do not matter."""
        hole = (INS, ALL, TWO[:1] + (TWO[1][:2],), ((Z, ((0, 0), ())),))
        self.assertEqual(turned(hole, ("s", Z)), Z)
        for many in range(2, 6):
            self.assertIsNone(turned(hole, row_of_signs(many)))
            self.assertEqual(size_turned(hole, row_of_signs(many)), 0)
        # The empty side of the state 1 is not asked for, as the part is not called.
        left = (OUTS, OUTS, (((),), (0, ((0,),))), ((Z, (((0, 0),),)), ((), ((Z,),))))
        self.assertEqual(turned(left, ("pair", Z, ("pair", Z, Z))), Z)
        both = (OUTS, OUTS, (((),), (0, ((0,),))), ((Z, ((("pair", (0, 0), (1, 1)),),)), ((), ((Z,),))))
        self.assertIsNone(turned(both, ("pair", Z, Z)))
        self.assertEqual(turned(both, ("pair", Z, ("pair", Z, Z))), ("pair", Z, Z))

    def test_chance(self):
        chooser = random.Random(91)
        seen = {True: 0, False: 0}
        for _ in range(150):
            ins, outs = chooser.choice(turns.SHAPES), chooser.choice(turns.SHAPES)
            turner = turns.some_turner(chooser, ins, outs, chooser.randint(1, 3), chooser.randint(1, 3), 5)
            self.assertIsNone(check_turner(turner))
            for size in range(1, 7):
                for tree in trees_of(ins, size)[:12]:
                    expected = turns.turned_told(turner, 0, tree)
                    seen[expected is None] += 1
                    self.assertEqual(turned(turner, tree), expected)
                    self.assertEqual(size_turned(turner, tree), 0 if expected is None else size_of(expected))
        self.assertGreater(min(seen.values()), 300)

    def test_size_401(self):
        pairs = (OUTS, OUTS, (((),), (0, ((0,),))), ((Z, ((("pair", (0, 0), (0, 1)),),)),))
        wide = self.balanced(399)
        self.assertEqual(turned(pairs, wide), wide)
        more = (OUTS, OUTS, (((),), (0, ((0,),))), ((Z, ((("pair", (1, 0), (1, 1)),),)), (Z, ((("pair", (1, 1), (1, 0)),),))))
        self.assertEqual(size_of(turned(more, wide)), 399)
        last = (INS, ALL, PLAIN, ((("s", Z), (("pair", ("pair", Z, Z), (0, 0)),)),))
        self.assertEqual(size_turned(last, row_of_signs(99)), 398)
        with self.assertRaises(TooLarge):
            turned((INS, ALL, PLAIN, ((chain(4, Z), (("pair", ("pair", Z, Z), (0, 0)),)),)), row_of_signs(99))

    def balanced(self, size):
        if size == 1:
            return Z
        left = (size - 1) // 2
        left -= 1 - left % 2
        return ("pair", self.balanced(left), self.balanced(size - 1 - left))

    def test_exact_sizes(self):
        """What comes of it has just 400 and 401 signs, and a depth far below 100."""
        for extra, size in [(0, 399), (1, 400), (2, 401)]:
            start = chain(extra, (1, 0))
            turner = (
                (("z", 0), ("s", 1), ("pair", 2)),
                ALL,
                (((),), (0, (0,), ((0,),))),
                ((Z, (start,), ((Z,),)), (Z, (Z,), ((("pair", (1, 0), (1, 1)),),))),
            )
            tree = ("s", self.balanced(399))
            self.assertEqual(size_turned(turner, tree), size)
            if size <= 400:
                self.assertEqual(size_of(turned(turner, tree)), size)
                self.assertTrue(is_tree(ALL, turned(turner, tree)))
            else:
                with self.assertRaises(TooLarge):
                    turned(turner, tree)

    def test_depth_100(self):
        for start, many in [(Z, 99), (("s", Z), 98), (("s", Z), 99)]:
            turner = (INS, ALL, PLAIN, ((start, (("s", (0, 0)),)),))
            tree = row_of_signs(many)
            if many + depth_of(start) <= 100:
                self.assertEqual(depth_of(turned(turner, tree)), 100)
            else:
                self.assertEqual(size_turned(turner, tree), 101)
                with self.assertRaises(TooLarge):
                    turned(turner, tree)

    def test_great_trees(self):
        """Trees of 399 and 400 signs, 100 deep, of which little or much is made."""
        lefts = (OUTS, INS, (((),), (0, ((0,),))), ((Z, ((("s", (0, 0)),),)),))
        self.assertEqual(turned(lefts, comb(199)), row_of_signs(99))
        self.assertEqual(turned(lefts, ("pair", Z, comb(197))), row_of_signs(1))
        self.assertEqual(size_turned(DOUBLER, row_of_signs(99)), 2 ** 100 - 1)
        with self.assertRaises(TooLarge):
            turned(DOUBLER, row_of_signs(99))
        piece = (0, 0)
        for _ in range(11):
            piece = ("pair", piece, (0, 0))
        many = (INS, OUTS, PLAIN, ((Z, (piece,)),))
        start = time.perf_counter()
        size = 1
        for _ in range(99):
            size = 12 * size + 11
        self.assertEqual(size_turned(many, row_of_signs(99)), size)
        self.assertEqual(counts_at(many, row_of_signs(99), (0,) * 99), (12 ** 99,))
        self.assertLess(time.perf_counter() - start, 1)

    def test_too_large_only_if_turned(self):
        """A great tree is not too large if some part of it is not turned, or if it is not asked for."""
        stop = (INS, OUTS, PLAIN, (((), (("pair", (0, 0), (0, 0)),)),))
        self.assertIsNone(turned(stop, row_of_signs(99)))
        self.assertEqual(size_turned(stop, row_of_signs(99)), 0)
        drop = (INS, OUTS, PLAIN, ((Z, (Z,)), (Z, (("pair", (1, 0), (1, 0)),))))
        self.assertEqual(turned(drop, row_of_signs(99)), Z)

    def test_greatest_turners(self):
        chooser = random.Random(92)
        signs = (("z", 0), ("pair", 2), ("node", 2), ("join", 2))
        start = time.perf_counter()
        for _ in range(3):
            turner = turns.some_turner(chooser, signs, signs, 24, 8, 24, 0.02)
            check_turner(turner)
            tree = self.balanced(399)
            size = size_turned(turner, tree)
            if size:
                counts_at(turner, tree, (0, 1))
        self.assertLess(time.perf_counter() - start, 5)


class LookTest(unittest.TestCase):
    def test_look_of(self):
        book = read_book(examples.EVEN)
        reader = look_of(book)
        rows, moves, _ = table_of(book)
        self.assertEqual(reader, (rows, moves))
        self.assertIsNone(check_reader(book[0], reader))
        for many in range(5):
            self.assertEqual(read_tree(book[0], reader, row_of_signs(many)), marks_of(book, row_of_signs(many)))
        with self.assertRaises(TooLarge):
            look_of(read_book(examples.ROWS25))
        self.assertEqual(len(look_of(read_book(examples.ROWS24))[0]), 24)


class CountsTest(unittest.TestCase):
    def test_by_hand(self):
        tree = ("pair", ("pair", ("s", Z), ("s", Z)), Z)
        self.assertEqual(counts_at(MIXED, tree, ()), (1, 0))
        self.assertEqual(counts_at(MIXED, tree, (0,)), (1, 0))
        self.assertEqual(counts_at(MIXED, tree, (1,)), (1, 0))
        self.assertEqual(counts_at(MIXED, tree, (0, 1)), (0, 0))
        self.assertEqual(counts_at(MIXED, ("s", Z), (0,)), (0, 1))

    def test_errors(self):
        for path in [(), (0,), (0, 0), (2,), (5, 5)]:
            with self.assertRaises(NotAllowed):
                counts_at(MIXED, ("s", ("s", Z)), path)
        tree = ("s", ("s", Z))
        for path in [(1,), (0, 1), (0, 0, 0), (2,), (-1,), (0, -1), (0, 2), (0, 0, 0, 0), (10 ** 20,), (-2, 0)]:
            with self.assertRaises(Missing):
                counts_at(DOUBLER, tree, path)
        with self.assertRaises(Missing):
            counts_at(MIXED, ("pair", Z, Z), (2,))

    def test_chance(self):
        chooser = random.Random(93)
        tried = 0
        while tried < 200:
            ins, outs = chooser.choice(turns.SHAPES), chooser.choice(turns.SHAPES)
            turner = turns.some_turner(chooser, ins, outs, chooser.randint(1, 2), chooser.randint(1, 3), 6, 0.1)
            tree = chooser.choice([tree for size in range(3, 7) for tree in trees_of(ins, size)[:20]] or [Z])
            if turns.turned_told(turner, 0, tree) is not None:
                tried += 1
                for path in turns.paths_in(tree):
                    self.assertEqual(counts_at(turner, tree, path), turns.counts_told(turner, tree, path))

    def test_nothing_is_changed(self):
        before = repr(MIXED)
        for _ in range(2):
            self.assertEqual(counts_at(MIXED, ("s", Z), (0,)), (0, 1))
            self.assertEqual(turned(MIXED, ("s", Z)), ("s", ("s", Z)))
            self.assertEqual(turned(DOUBLER, ("s", Z)), ("pair", Z, Z))
        self.assertEqual(repr(MIXED), before)


if __name__ == "__main__":
    unittest.main()
