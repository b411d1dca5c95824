import random
import time
import unittest

import picks
from test_samples import some_tree
from test_turners import comb
from pergola.errors import Missing, NotAllowed, TooLarge
from pergola.order import trees_of
from pergola.pickers import (
    MAX_PICKED,
    MAX_SHOWN,
    check_picker,
    count_ways,
    counts_of,
    is_way,
    known_reader,
    number_of,
    taken_reader,
    way_at,
    ways_of,
)
from pergola.readers import check_reader, least_of, read_tree

SIGNS = (("z", 0), ("pair", 2))
LEAF = (2, ((0, 1), (((0,), (1,)), ((1,), ()))), (1,))
ALL = (("z", 0), ("s", 1), ("pair", 2))
WORDS = (("z", 0), ("s", 1), ("t", 1))
SHAPES = [SIGNS, ALL, WORDS, (("pair", 2), ("o", 0), ("z", 0)), (("z", 0), ("node", 2), ("s", 1), ("pair", 2))]
BIG = (("z", 0), ("pair", 2), ("node", 2), ("join", 2))
Z = ("z",)
TREE = ("pair", ("pair", Z, Z), Z)

# Pickers of which trees have just 24 and 25 different capped counts, for the numbers 1 and 2.
TAKEN24 = (5, ((0, 3, 4), ((1, 2), (1, 3), (3,), (1, 4), (0, 1)), ((2,), (3,), (), (4,), (0, 2))), (0, 2, 4))
TAKEN25 = (6, ((3, 4), ((2,), (3,), (0, 4), (5,), (), (0, 1)), ((0, 3, 4), (4,), (0, 4), (3,), (0, 1), (1, 5))), (5,))
KNOWN24 = (5, ((0,), ((1, 4), (0, 1, 4), (0, 1), (4,), (0, 4)), ((3,), (2, 3), (0, 3, 4), (4,), (0,))), (0, 2, 3, 4))
KNOWN25 = (5, ((4,), ((3,), (), (2, 3), (), ()), ((2,), (0, 1), (1,), (3,), (1, 4))), (1,))


def capped_told(signs, picker, cap):
    """All capped counts that trees have."""
    found = {}
    grown = True
    while grown:
        grown = False
        for sign, arity in signs:
            for parts in picks.itertools.product(list(found), repeat=arity):
                counts = tuple(min(count, cap) for count in picks.counts_over_told(signs, picker, sign, parts))
                grown = grown or counts not in found
                found[counts] = True
    return list(found)


class CheckTest(unittest.TestCase):
    def refused(self, signs, picker):
        with self.assertRaises(NotAllowed):
            check_picker(signs, picker)

    def with_entries(self, *entries):
        return (2, entries, (1,))

    def test_good(self):
        self.assertIsNone(check_picker(SIGNS, LEAF))
        self.assertIsNone(check_picker(ALL, (1, ((0,), ((),), (((0,),),)), ())))
        self.assertIsNone(check_picker((("z", 0),), (3, ((0, 1, 2),), (0, 2))))
        self.assertEqual((MAX_PICKED, MAX_SHOWN), (6, 500))

    def test_states(self):
        for many in [-1, 0, 1, 2, 5, 6, 7, 100]:
            picker = (many, ((), ((),) * max(many, 0)), ())
            if 1 <= many <= 6:
                self.assertIsNone(check_picker((("z", 0), ("s", 1)), picker))
            else:
                self.refused((("z", 0), ("s", 1)), picker)
        self.refused((("z", 0),), (0, ((),), ()))

    def test_entries(self):
        good = LEAF[1]
        self.refused(SIGNS, self.with_entries())
        self.refused(SIGNS, self.with_entries(good[0]))
        self.refused(SIGNS, self.with_entries(*good, ()))
        self.refused(SIGNS, self.with_entries(good[1], good[0]))
        for entry in [0, (2,), (-1,), (0, 0), (1, 0), (0, 1, 2), ((0,),), ((),), (0, (1,)), (0, 1, 1)]:
            self.refused(SIGNS, self.with_entries(entry, good[1]))
            self.refused(ALL, self.with_entries(good[0], (entry, ()), good[1]))
            self.refused(ALL, self.with_entries(good[0], ((), entry), good[1]))
            self.refused(SIGNS, self.with_entries(good[0], (((0,), (1,)), ((1,), entry))))
        for entry in [0, (), ((),), ((), (), ()), ((0, 1), 0), (0, 1), (((),), ((),))]:
            self.refused(ALL, self.with_entries(good[0], entry, good[1]))
        for entry in [0, (), (((0,), (1,)),), (((0,), (1,)), ((1,),)), (((0,), (1,)), ((1,), (), ())), ((0,), (1,)), (((0,), (1,)), 1), ((), ())]:
            self.refused(SIGNS, self.with_entries(good[0], entry))

    def test_goods(self):
        for goods in [(0,), (1,), (0, 1), ()]:
            self.assertIsNone(check_picker(SIGNS, (*LEAF[:2], goods)))
        for goods in [(2,), (-1,), (0, 0), (1, 0), (0, 1, 1), (0, 1, 2)]:
            self.refused(SIGNS, (*LEAF[:2], goods))

    def test_nested_deep(self):
        for inner in [(), 0, (0,)]:
            value = inner
            for _ in range(58):
                value = (value,)
            self.refused(SIGNS, self.with_entries(value, LEAF[1][1]))
            self.refused(SIGNS, self.with_entries(LEAF[1][0], value))
            self.refused(SIGNS, self.with_entries(LEAF[1][0], ((value, (1,)), ((1,), ()))))


class CountTest(unittest.TestCase):
    def test_examples(self):
        self.assertEqual((counts_of(SIGNS, LEAF, TREE), count_ways(SIGNS, LEAF, TREE)), ((1, 3), 3))
        self.assertEqual(way_at(SIGNS, LEAF, TREE, 1), (1, (1, (0,), (1,)), (0,)))
        self.assertEqual(number_of(SIGNS, LEAF, TREE, (1, (1, (1,), (0,)), (0,))), 2)
        self.assertEqual(taken_reader(SIGNS, LEAF), ((("yes",),), (0, ((0,),))))

    def test_chance(self):
        """All ways of small trees, in the order of tuples, with their numbers."""
        chooser = random.Random(112)
        seen = {0: 0, 1: 0, 2: 0}
        for _ in range(150):
            signs = chooser.choice(SHAPES)
            picker = picks.some_picker(chooser, signs, chooser.randint(1, 4), chooser.choice([0.2, 0.4, 0.7]))
            self.assertIsNone(check_picker(signs, picker))
            tree = some_tree(chooser, signs, chooser.randint(1, 7))
            every = picks.ways_told(signs, picker, tree)
            if len(every) > 400:
                continue
            seen[min(len(every), 2)] += 1
            self.assertEqual(counts_of(signs, picker, tree), picks.counts_told(signs, picker, tree))
            self.assertEqual(count_ways(signs, picker, tree), len(every))
            self.assertEqual(ways_of(signs, picker, tree), every)
            for number, way in enumerate(every[:60]):
                self.assertEqual(way_at(signs, picker, tree, number), way)
                self.assertEqual(number_of(signs, picker, tree, way), number)
                self.assertIs(is_way(signs, picker, tree, way), True)
            for number in [-1, -2, len(every), len(every) + 1, 10 ** 40]:
                with self.assertRaises(Missing):
                    way_at(signs, picker, tree, number)
        self.assertGreater(min(seen.values()), 15)

    def test_great_numbers(self):
        """Numbers are exact, however great, and tell their ways."""
        wide = (2, ((0, 1), (((0, 1), (0, 1)), ((0, 1), (0, 1)))), (0, 1))
        tree = comb(199)
        self.assertEqual(count_ways(SIGNS, wide, tree), 2 ** 199)
        chooser = random.Random(113)
        for number in [0, 1, 2 ** 199 - 1, 2 ** 100, *[chooser.randrange(2 ** 199) for _ in range(20)]]:
            way = way_at(SIGNS, wide, tree, number)
            self.assertTrue(is_way(SIGNS, wide, tree, way))
            self.assertEqual(number_of(SIGNS, wide, tree, way), number)
        with self.assertRaises(Missing):
            way_at(SIGNS, wide, tree, 2 ** 199)
        numbers = sorted(chooser.randrange(2 ** 199) for _ in range(30))
        ways = [way_at(SIGNS, wide, tree, number) for number in numbers]
        self.assertEqual(ways, sorted(ways))
        all_six = (6, (tuple(range(6)), ((tuple(range(6)),) * 6,) * 6), tuple(range(6)))
        self.assertEqual(count_ways(SIGNS, all_six, comb(199)), 6 ** 199)

    def test_values_that_are_no_ways(self):
        way = (1, (1, (0,), (1,)), (0,))
        bad = [0, 1, (), (1,), (0, *way[1:]), (1, way[1]), (*way, (0,)), (1, (0,), way[1]), (1, (1, (0,), (1,)), (1,)), (1, (1, (0,), (0,)), (0,))]
        bad += [((1,), *way[1:]), (2, *way[1:]), (-1, *way[1:]), (1, (1, (0,), (1,)), 0), (1, (1, (0,), (1,)), ((0,),)), (1, (1, 0, 1), (0,)), (1, 1, 0)]
        bad += [(0, (0, (0,), (0,)), (0,)), (1, (1, (0,), (1,), (0,)), (0,)), (1, (1, (0,), (1, (0,))), (0,))]
        for start in [(0,), 0, (1, (0,))]:
            value = start
            for _ in range(197):
                value = (1, value)
            bad.append(value)
        for value in bad:
            self.assertIs(is_way(SIGNS, LEAF, TREE, value), False, value)
            with self.assertRaises(Missing):
                number_of(SIGNS, LEAF, TREE, value)

    def test_ways_to_states_that_are_not_good(self):
        self.assertFalse(is_way(SIGNS, LEAF, Z, (0,)))
        self.assertTrue(is_way(SIGNS, LEAF, Z, (1,)))
        self.assertEqual(ways_of(SIGNS, (*LEAF[:2], ()), TREE), [])
        self.assertEqual(counts_of(SIGNS, (*LEAF[:2], ()), TREE), (1, 3))
        self.assertEqual(ways_of(SIGNS, (*LEAF[:2], (0, 1)), Z), [(0,), (1,)])

    def test_500_and_501_ways(self):
        """A way chooses a sign in either part of a pair; or, by the second picker, it may be the pair's own way."""
        row = [Z]
        for _ in range(60):
            row.append(("s", row[-1]))
        product = (3, ((0,), ((0, 1), (1,), ()), (((), (), ()), ((), (2,), ()), ((), (), ()))), (2,))
        more = (3, ((0,), ((0, 1), (1,), ()), (((2,), (), ()), ((), (2,), ()), ((), (), ()))), (2,))
        for one, other in [(20, 25), (1, 60), (22, 22)]:
            tree = ("pair", row[one], row[other])
            found = ways_of(ALL, product, tree)
            self.assertEqual(len(found), one * other)
            self.assertEqual(found, sorted(set(found)))
            self.assertTrue(all(is_way(ALL, product, tree, way) for way in found))
        tree = ("pair", row[20], row[25])
        self.assertEqual((count_ways(ALL, product, tree), count_ways(ALL, more, tree)), (500, 501))
        for picker, tree in [(more, tree), (product, ("pair", row[21], row[24])), (product, ("pair", row[60], row[60]))]:
            with self.assertRaises(TooLarge):
                ways_of(ALL, picker, tree)

    def test_greatest(self):
        chooser = random.Random(114)
        start = time.perf_counter()
        for often in [0.05, 0.2, 1]:
            picker = picks.some_picker(chooser, BIG, 6, often)
            tree = some_tree(chooser, BIG, 199)
            many = count_ways(BIG, picker, tree)
            for number in {0, many // 2, many - 1} if many else set():
                self.assertEqual(number_of(BIG, picker, tree, way_at(BIG, picker, tree, number)), number)
            if many <= 500:
                self.assertEqual(len(ways_of(BIG, picker, tree)), many)
        self.assertLess(time.perf_counter() - start, 3)

    def test_few_ways_of_a_great_tree(self):
        """Only a few ways go on to the whole tree, though its parts have very many."""
        picker = (3, ((0, 1), (((0, 1), (0, 1), ()), ((0, 1), (0, 1), ()), ((), (), (2,)))), (2,))
        self.assertEqual(ways_of(SIGNS, picker, comb(199)), [])
        lone = (4, ((0, 1, 3), (((0, 1), (0, 1), (), ()), ((0, 1), (0, 1), (), ()), ((), (), (), ()), ((), (), (), (3,)))), (3,))
        found = ways_of(SIGNS, lone, comb(199))
        self.assertEqual(len(found), 1)
        self.assertEqual(found[0][0], 3)

    def test_nothing_is_kept(self):
        found = ways_of(SIGNS, LEAF, TREE)
        found.clear()
        self.assertEqual(len(ways_of(SIGNS, LEAF, TREE)), 3)


class ReaderTest(unittest.TestCase):
    def test_chance(self):
        chooser = random.Random(115)
        labels = set()
        for _ in range(120):
            signs = chooser.choice(SHAPES)
            picker = picks.some_picker(chooser, signs, chooser.randint(1, 3), chooser.choice([0.2, 0.35, 0.5]))
            try:
                taken, known = taken_reader(signs, picker), known_reader(signs, picker)
            except TooLarge:
                continue
            for reader in [taken, known]:
                self.assertIsNone(check_reader(signs, reader))
                self.assertEqual(least_of(signs, reader), reader)
            for size in range(1, 6):
                for tree in trees_of(signs, size)[:20]:
                    many = picks.good_told(picker, picks.counts_told(signs, picker, tree))
                    self.assertEqual(read_tree(signs, taken, tree), ("yes",) if many else ())
                    label = ("none",) if many == 0 else ("one",) if many == 1 else ("more",)
                    self.assertEqual(read_tree(signs, known, tree), label)
                    labels.add(label)
        self.assertEqual(len(labels), 3)

    def test_24_and_25_capped_counts(self):
        for picker, cap, many in [(TAKEN24, 1, 24), (TAKEN25, 1, 25), (KNOWN24, 2, 24), (KNOWN25, 2, 25)]:
            self.assertIsNone(check_picker(WORDS, picker))
            self.assertEqual(len(capped_told(WORDS, picker, cap)), many)
            ask = taken_reader if cap == 1 else known_reader
            if many == 24:
                self.assertIsNone(check_reader(WORDS, ask(WORDS, picker)))
            else:
                with self.assertRaises(TooLarge):
                    ask(WORDS, picker)
        # For the number 1 these are less.
        self.assertIsNone(check_reader(WORDS, taken_reader(WORDS, KNOWN25)))

    def test_numbers_that_sum_up(self):
        """Two good states with one way each are more than one way."""
        self.assertEqual(known_reader((("z", 0), ("o", 0)), (2, ((0, 1), (1,)), (0, 1))), ((("more",), ("one",)), (0, 1)))
        self.assertEqual(known_reader((("z", 0),), (2, ((),), (0, 1))), ((("none",),), (0,)))


if __name__ == "__main__":
    unittest.main()
