import itertools
import random
import time
import unittest

import picks
from test_pickers import ALL, BIG, LEAF, SHAPES, SIGNS, Z, capped_told
from pergola.errors import BadPaper, Missing, NotAllowed, TooLarge
from pergola.fewways import MAX_CAPPED, MAX_MOST, few_paper, judge_few, more_than
from pergola.order import trees_of
from pergola.pickers import check_picker, count_ways
from pergola.terms import is_tree, size_of

ONE = (2, ((1,), (((0,), (0,)), ((1,), ()))), (1,))
# Two signs are counted, each up to a number, beside a state that is always there.
COUNTED = (("z", 0), ("s", 1), ("t", 1))
COUNTS = (3, ((0,), ((0, 1), (1,), (2,)), ((0, 2), (1,), (2,))), ())
# The same with two signs of the arity 0, each of which counts one for itself.
LEAVES = (("z", 0), ("o", 0), ("s", 1), ("t", 1))
COUNTS_OF_LEAVES = (3, ((0, 1), (0, 2), *COUNTS[1][1:]), ())
WIDE = (("z", 0), ("s", 1), ("pair", 2), ("node", 2))
# The least tree with more than 8 ways has 400 signs.
SIZE400 = (
    6,
    (
        (0,),
        ((1,), (), (3,), (), (1,), ()),
        (
            ((), (), (3,), (), (), (2,)),
            ((), (2,), (), (1,), (2,), (1,)),
            ((), (), (2,), (), (), ()),
            ((), (), (3,), (), (), (1,)),
            ((), (), (4,), (3,), (5,), (0,)),
            ((), (), (), (1,), (5,), (1,)),
        ),
        (
            ((), (0,), (), (), (), ()),
            ((), (0,), (), (), (0,), (3,)),
            ((), (), (), (), (), (3,)),
            ((2,), (), (4,), (), (4,), ()),
            ((3,), (3,), (), (3,), (3,), ()),
            ((), (), (), (3,), (), (0, 5)),
        ),
    ),
    (4, 5),
)


def ladder():
    """A picker by which a tree of 63 signs is the least one of its state; over `many` of these there are `many` - 1 ways."""
    pair = [[()] * 6 for _ in range(6)]
    for state in range(5):
        pair[state][state] = (state + 1,)
    node = [[()] * 6 for _ in range(6)]
    node[5][5] = (0, 5)
    node[0][5] = node[5][0] = (0,)
    return (6, ((0,), ((),) * 6, tuple(map(tuple, pair)), tuple(map(tuple, node))), (0,))


class MoreTest(unittest.TestCase):
    def test_examples(self):
        self.assertEqual(more_than(SIGNS, LEAF, 1), ("pair", Z, Z))
        self.assertEqual(more_than(SIGNS, LEAF, 2), ("pair", Z, ("pair", Z, Z)))
        self.assertEqual(few_paper(SIGNS, ONE, 1), ((0, 0), (0, 1)))
        self.assertEqual((MAX_MOST, MAX_CAPPED), (9, 80))

    def test_numbers(self):
        """Numbers from 0 to 9 are allowed; that comes ahead of all else."""
        many = (6, ((0,), ((0, 1, 2), (1,), (2,), (3,), (4,), (5,)), ((0, 3, 4), (1,), (2,), (3,), (4,), (5,))), (1,))
        for most in [-1, 10, 11, 10 ** 20, -(10 ** 20)]:
            for picker in [LEAF, ONE]:
                with self.assertRaises(NotAllowed):
                    more_than(SIGNS, picker, most)
                with self.assertRaises(NotAllowed):
                    few_paper(SIGNS, picker, most)
                with self.assertRaises(NotAllowed):
                    judge_few(SIGNS, picker, most, ((9, 9, 9),))
            with self.assertRaises(NotAllowed):
                more_than(COUNTED, many, most)
            with self.assertRaises(NotAllowed):
                few_paper(COUNTED, many, most)
        with self.assertRaises(TooLarge):
            more_than(COUNTED, many, 9)
        for most in [0, 9]:
            self.assertIsNone(judge_few(SIGNS, (1, ((), (((),),)), (0,)), most, ((0,),)))
        self.assertEqual(more_than(SIGNS, LEAF, 0), Z)
        self.assertEqual(count_ways(SIGNS, LEAF, more_than(SIGNS, LEAF, 9)), 10)

    def test_80_and_81_capped_counts(self):
        self.assertEqual(len(capped_told(LEAVES, COUNTS_OF_LEAVES, 8)), 80)
        self.assertEqual(len(capped_told(COUNTED, COUNTS, 8)), 81)
        self.assertEqual(len(few_paper(LEAVES, COUNTS_OF_LEAVES, 7)), 80)
        self.assertIsNone(more_than(LEAVES, COUNTS_OF_LEAVES, 7))
        for goods in [(), (0,), (1,), (0, 1, 2)]:
            # Whatever trees there are.
            for ask in [more_than, few_paper]:
                with self.assertRaises(TooLarge):
                    ask(COUNTED, (*COUNTS[:2], goods), 7)
        self.assertEqual(len(few_paper(COUNTED, COUNTS, 6)), 64)

    def test_sizes_400_and_more(self):
        self.assertIsNone(check_picker(WIDE, SIZE400))
        found = more_than(WIDE, SIZE400, 8)
        self.assertEqual(size_of(found), 400)
        self.assertTrue(is_tree(WIDE, found))
        self.assertGreater(count_ways(WIDE, SIZE400, found), 8)
        self.assertIsNone(check_picker(WIDE, ladder()))
        self.assertEqual(size_of(more_than(WIDE, ladder(), 4)), 383)
        with self.assertRaises(TooLarge):
            more_than(WIDE, ladder(), 5)
        with self.assertRaises(Missing):
            few_paper(WIDE, ladder(), 5)

    def test_chance(self):
        """The tree is the first one of all with more ways; if there is none, no small one has more, and the paper says so."""
        chooser = random.Random(116)
        seen = {True: 0, False: 0}
        while min(seen.values()) < 60:
            signs = chooser.choice(SHAPES)
            picker = picks.some_picker(chooser, signs, chooser.randint(1, 3), chooser.choice([0.2, 0.3, 0.4]))
            most = chooser.randint(0, 3)
            every = capped_told(signs, picker, most + 1)
            if len(every) > 80:
                continue
            found = more_than(signs, picker, most)
            seen[found is None] += 1
            first = None
            for size in range(1, 6):
                for tree in trees_of(signs, size)[:60]:
                    if first is None and picks.good_told(picker, picks.counts_told(signs, picker, tree)) > most:
                        first = tree
            if found is None:
                self.assertIsNone(first)
                self.assertEqual(few_paper(signs, picker, most), tuple(sorted(every)))
                self.assertIsNone(judge_few(signs, picker, most, tuple(sorted(every))))
            else:
                self.assertGreater(picks.good_told(picker, picks.counts_told(signs, picker, found)), most)
                self.assertTrue(first in (None, found) or size_of(found) == 5)
                with self.assertRaises(Missing):
                    few_paper(signs, picker, most)
                with self.assertRaises(BadPaper):
                    judge_few(signs, picker, most, tuple(sorted(every)))

    def test_greatest(self):
        chooser = random.Random(117)
        start = time.perf_counter()
        for often in [0.03, 0.06, 0.1, 0.2, 1]:
            picker = picks.some_picker(chooser, BIG, 6, often)
            for most in [0, 3, 9]:
                for ask in [more_than, few_paper]:
                    try:
                        ask(BIG, picker, most)
                    except (TooLarge, Missing):
                        pass
        paper = few_paper(LEAVES, COUNTS_OF_LEAVES, 7)
        self.assertIsNone(judge_few(LEAVES, COUNTS_OF_LEAVES, 7, paper))
        self.assertLess(time.perf_counter() - start, 5)


class JudgeTest(unittest.TestCase):
    def bad(self, paper, picker=ONE, most=1):
        with self.assertRaises(BadPaper):
            judge_few(SIGNS, picker, most, paper)

    def test_right(self):
        self.assertIsNone(judge_few(SIGNS, ONE, 1, ((0, 0), (0, 1))))
        # More tuples than needed; what follows from them is there as well.
        self.assertIsNone(judge_few(SIGNS, ONE, 1, ((0, 0), (0, 1), (1, 0))))
        self.bad(((0, 0), (0, 1), (1, 0), (2, 0)))
        self.assertIsNone(judge_few(SIGNS, ONE, 9, ((0, 0), (0, 1))))

    def test_each_sentence(self):
        self.bad(())
        self.bad(((0, 1),))
        self.bad(((0, 0),))
        self.bad(((0, 1), (0, 0)))
        self.bad(((0, 0), (0, 0), (0, 1)))
        self.bad(((0, 0), (0, 1), (0, 1)))
        for wrong in [(0,), (0, 1, 0), (), (3, 0), (0, -1), (-1, 0), (0, 3), (10 ** 20, 0)]:
            self.bad(tuple(sorted([(0, 0), (0, 1), wrong])))
        # A sum that is too great, and one that is not, for another number.
        self.bad(((0, 0), (0, 1), (0, 2), (1, 2), (2, 2)))
        self.bad(((0, 0), (0, 1)), ONE, 0)
        self.bad(((0, 0), (0, 1), (1, 0)), LEAF, 1)

    def test_capped(self):
        """Counts that follow are capped at 1 more than the number."""
        doubled = (2, ((0,), (((0,), ()), ((), ()))), ())
        self.assertIsNone(judge_few(SIGNS, doubled, 2, ((1, 0),)))
        self.assertIsNone(judge_few(SIGNS, doubled, 2, ((1, 0), (3, 0))))
        self.bad(((1, 0), (2, 0)), doubled, 2)
        self.assertIsNone(judge_few(SIGNS, doubled, 1, ((1, 0), (2, 0))))

    def test_all_small_papers(self):
        chooser = random.Random(118)
        right = 0
        for _ in range(6):
            picker = picks.some_picker(chooser, SIGNS, 2, 0.35)
            every = list(itertools.product(range(3), repeat=2))
            for many in range(5):
                for paper in itertools.combinations(every, many):
                    closed = all(
                        tuple(min(count, 2) for count in picks.counts_over_told(SIGNS, picker, sign, parts)) in paper
                        for sign, arity in SIGNS
                        for parts in itertools.product(paper, repeat=arity)
                    )
                    if closed and all(picks.good_told(picker, counts) <= 1 for counts in paper):
                        right += 1
                        self.assertIsNone(judge_few(SIGNS, picker, 1, paper))
                    else:
                        self.bad(paper, picker)
        self.assertGreater(right, 10)

    def test_nothing_is_changed(self):
        self.assertEqual(few_paper(SIGNS, ONE, 1), few_paper(SIGNS, ONE, 1))
        self.assertIsNone(more_than(ALL, (1, ((), ((),), (((),),)), (0,)), 3))


if __name__ == "__main__":
    unittest.main()
