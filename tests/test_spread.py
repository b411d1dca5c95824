import itertools
import math
import random
import time
import unittest

import picks
from test_pickers import ALL, BIG, LEAF, SHAPES, SIGNS, WORDS, Z
from pergola.errors import BadPaper, Missing, TooLarge
from pergola.order import trees_of
from pergola.pickers import check_picker, count_ways
from pergola.samples import is_surrounding, make
from pergola.spread import (
    MAX_MET,
    bound_paper,
    judge_bound,
    judge_spread,
    led,
    spread,
    spread_paper,
    times_for,
    useful_states,
)
from pergola.terms import size_of

PAPER = (0, 1, Z, ("pair", "x", Z), "x")
# Each sign may be left at the state 0, or passed to the next state; so so many signs are chosen.
LETTERS = (("z", 0), ("s", 1))
FOUR_WORDS = (("z", 0), ("s", 1), ("t", 1), ("w", 1))
# Pickers whose first bounds have just 200 and 201 tuples.
ENTRIES = (
    ((), (0,), (2,), (2,), (1,), (4, 5)),
    ((1, 2), (2,), (), (2, 3), (0, 2, 3, 5), (2,)),
    ((5,), (2,), (), (1, 4), (2, 4), (0, 2)),
)
MET200 = (6, ((0, 1, 3, 4), *ENTRIES), (0, 1, 2, 3, 4, 5))
MET201 = (6, ((0, 2, 3, 4), *ENTRIES), (0, 1, 2, 3, 4, 5))


def chooser_of(many):
    """A picker of rows of signs, by which just so many of the signs are chosen."""
    entry = tuple((state, state + 1) if state < many else (state,) for state in range(many + 1))
    return (many + 1, ((0,), entry), (many,))


class LedTest(unittest.TestCase):
    def test_examples(self):
        self.assertEqual(led(SIGNS, LEAF, ("pair", "x", Z)), ((1, 1), (0, 1)))
        self.assertEqual(spread(SIGNS, LEAF), ("power", 1))
        self.assertEqual(spread(SIGNS, (1, ((0,), (((0,),),)), (0,))), ("none", 1))
        self.assertIsNone(judge_spread(SIGNS, LEAF, PAPER))
        self.assertEqual(times_for(SIGNS, LEAF, PAPER, 100), 100)

    def test_name_alone(self):
        self.assertEqual(led(SIGNS, LEAF, "x"), ((1, 0), (0, 1)))
        self.assertEqual(led(SIGNS, LEAF, "name"), ((1, 0), (0, 1)))

    def test_chance(self):
        chooser = random.Random(119)
        for _ in range(200):
            signs = chooser.choice(SHAPES)
            picker = picks.some_picker(chooser, signs, chooser.randint(1, 4), 0.4)
            surrounding = "u"
            for _ in range(chooser.randint(0, 4)):
                word, arity = chooser.choice([(word, arity) for word, arity in signs if arity])
                tree = chooser.choice([tree for size in range(1, 5) for tree in trees_of(signs, size)])
                parts = [surrounding, tree][:arity]
                if chooser.random() < 0.5:
                    parts.reverse()
                surrounding = (word, *parts)
            expected = tuple(picks.led_told(signs, picker, surrounding, state) for state in range(picker[0]))
            self.assertEqual(led(signs, picker, surrounding), expected)

    def test_deep_and_great(self):
        surrounding = "x"
        for _ in range(199):
            surrounding = ("s", surrounding)
        self.assertEqual(led(LETTERS, chooser_of(1), surrounding), ((1, 199), (0, 1)))
        wide = (2, ((0, 1), (((0, 1), (0, 1)), ((0, 1), (0, 1)))), (0,))
        surrounding = "x"
        for _ in range(150):
            surrounding = ("pair", Z, surrounding)
        self.assertEqual(led(SIGNS, wide, surrounding)[0], (2 ** 299, 2 ** 299))

    def test_useful_states(self):
        self.assertEqual(useful_states(SIGNS, LEAF), (0, 1))
        self.assertEqual(useful_states(SIGNS, (*LEAF[:2], ())), ())
        self.assertEqual(useful_states(SIGNS, (*LEAF[:2], (0,))), (0,))
        # No tree has a way to the state 1, so no surrounding has one beside its name.
        lone = (3, ((0,), (((), (2,), ()), ((), (), ()), ((), (), ()))), (2,))
        self.assertEqual(useful_states(SIGNS, lone), ())
        chooser = random.Random(120)
        found = set()
        for _ in range(300):
            signs = chooser.choice(SHAPES)
            picker = picks.some_picker(chooser, signs, chooser.randint(1, 5), chooser.choice([0.1, 0.2, 0.3]))
            self.assertEqual(useful_states(signs, picker), picks.useful_told(signs, picker))
            found.add(len(useful_states(signs, picker)))
        self.assertEqual(found, set(range(6)))


class SpreadTest(unittest.TestCase):
    def test_powers(self):
        for many in range(6):
            picker = chooser_of(many)
            self.assertIsNone(check_picker(LETTERS, picker))
            if many == 0:
                self.assertEqual(spread(LETTERS, picker), ("none", 1))
            else:
                self.assertEqual(spread(LETTERS, picker), ("power", many))
                paper = spread_paper(LETTERS, picker)
                self.assertNotEqual(paper[0], paper[1])
                self.assertIsNone(judge_spread(LETTERS, picker, paper))
                with self.assertRaises(Missing):
                    bound_paper(LETTERS, picker)

    def test_powers_that_sum_up(self):
        """Pairs put powers together; the power is that of the good states."""
        pair = [[()] * 4 for _ in range(4)]
        pair[1][1] = (2,)
        pair[2][2] = (3,)
        signs = (("z", 0), ("s", 1), ("pair", 2))
        for goods, power in [((0,), 0), ((1,), 1), ((2,), 2), ((3,), 4), ((0, 2), 2), ((1, 3), 4)]:
            picker = (4, ((0,), ((0, 1), (1,), (2,), ()), tuple(map(tuple, pair))), goods)
            self.assertEqual(spread(signs, picker), ("power", power) if power else ("none", 1))
        # Rows with a state that no tree has do not count.
        pair[1][0] = (1,)
        picker = (3, ((0,), ((0, 1), (1,), ()), (((), (), ()), ((), (), (1,)), ((), (1,), ()))), (1,))
        self.assertEqual(spread(signs, picker), ("power", 1))

    def test_a_row_with_a_state_that_no_tree_has(self):
        """It would lift the power of its state, if it counted."""
        signs = (("z", 0), ("s", 1), ("pair", 2), ("node", 2))
        many = 5
        empty = [[()] * many for _ in range(many)]
        pair = [list(row) for row in empty]
        node = [list(row) for row in empty]
        # No tree has a way to the state 4. The state 2 is led to by 1 and 4 alone, and by the sign `node` from 0 and 0.
        pair[1][4] = (2,)
        pair[2][2] = (3,)
        node[0][0] = (2,)
        node[1][1] = (3,)
        picker = (many, ((0,), ((0, 1), (1,), (), (), ()), tuple(map(tuple, pair)), tuple(map(tuple, node))), (3,))
        self.assertEqual(useful_states(signs, picker), (0, 1, 2, 3))
        self.assertEqual(spread(signs, picker), ("power", 2))
        node[1][1] = ()
        node[0][1] = (3,)
        picker = (many, ((0,), ((0, 1), (1,), (), (), ()), tuple(map(tuple, pair)), tuple(map(tuple, node))), (3,))
        self.assertEqual(spread(signs, picker), ("power", 1))

    def test_beyond(self):
        both = (2, ((0,), ((1,), (0, 1))), (0, 1))
        self.assertEqual(spread(LETTERS, both)[0], "beyond")
        for signs, picker in [
            (LETTERS, both),
            (SIGNS, (1, ((0,), (((0,),),)), (0,))),
            (SIGNS, (2, ((0, 1), (((0, 1), ()), ((), ()))), (0,))),
            # The ways differ in a tree beside the name alone.
            (SIGNS, (3, ((0, 1, 2), (((0,), (1,), ()), ((1,), (), ()), ((), (2,), ()))), (2,))),
            (SIGNS, (2, ((0, 1), (((1,), (1,)), ((), ()))), (1,))),
        ]:
            word, number = spread(signs, picker)
            if word == "beyond":
                self.assertEqual(number, 0)
                paper = spread_paper(signs, picker)
                self.assertEqual(paper[0], paper[1])
                self.assertIsNone(judge_spread(signs, picker, paper))
                with self.assertRaises(Missing):
                    bound_paper(signs, picker)
        self.assertEqual(spread(SIGNS, (3, ((0, 1, 2), (((0,), (1,), ()), ((1,), (), ()), ((), (2,), ()))), (2,))), ("beyond", 0))
        # The signs that choose are never on the way to a good state, or in no tree.
        self.assertEqual(spread(LETTERS, (*both[:2], ())), ("none", 0))
        self.assertEqual(spread(LETTERS, (2, ((), ((0, 1), (0, 1))), (0, 1))), ("none", 0))

    def test_bounded(self):
        two = (3, ((0,), ((1, 2), (1,), (2,))), (1, 2))
        self.assertEqual(spread(LETTERS, two), ("none", 2))
        self.assertEqual(bound_paper(LETTERS, two), ((0, 1, 1), (1, 0, 0)))
        # States that are not useful stand with 0, though there are more and more ways to them.
        aside = (3, ((0, 1), ((0,), (1, 2), (2,))), (0,))
        self.assertEqual(spread(LETTERS, aside), ("none", 1))
        self.assertEqual(bound_paper(LETTERS, aside), ((1, 0, 0),))
        with self.assertRaises(Missing):
            spread_paper(LETTERS, aside)

    def test_200_and_201_tuples(self):
        self.assertEqual(MAX_MET, 200)
        for picker in [MET200, MET201]:
            self.assertIsNone(check_picker(FOUR_WORDS, picker))
        paper = bound_paper(FOUR_WORDS, MET200)
        self.assertEqual(len(paper), 200)
        word, number = spread(FOUR_WORDS, MET200)
        self.assertEqual((word, number), ("none", max(sum(counts) for counts in paper)))
        self.assertIsNone(judge_bound(FOUR_WORDS, MET200, number, paper))
        with self.assertRaises(BadPaper):
            judge_bound(FOUR_WORDS, MET200, number - 1, paper)
        for ask in [spread, bound_paper]:
            with self.assertRaises(TooLarge):
                ask(FOUR_WORDS, MET201)
        with self.assertRaises(Missing):
            spread_paper(FOUR_WORDS, MET201)
        found = {picks.counts_told(FOUR_WORDS, MET201, Z)}
        waiting = list(found)
        while waiting:
            counts = waiting.pop()
            for word in "stw":
                other = picks.counts_over_told(FOUR_WORDS, MET201, word, [counts])
                if other not in found:
                    found.add(other)
                    waiting.append(other)
        self.assertEqual(len(found), 201)
        # The judge has no bound.
        self.assertIsNone(judge_bound(FOUR_WORDS, MET201, max(map(sum, found)), tuple(sorted(found))))

    def test_chance(self):
        """Growths are those of the greatest numbers of ways of trees of all sizes, and papers are right."""
        chooser = random.Random(121)
        seen = {"none": 0, "power": 0, "beyond": 0}
        most = {"none": 40, "power": 25, "beyond": 40}
        while any(seen[word] < most[word] for word in seen):
            signs = chooser.choice(SHAPES)
            picker = picks.some_picker(chooser, signs, chooser.randint(1, 4), chooser.choice([0.15, 0.25, 0.35]))
            try:
                word, number = spread(signs, picker)
            except TooLarge:
                continue
            if seen[word] >= most[word]:
                continue
            seen[word] += 1
            if word == "none":
                paper = bound_paper(signs, picker)
                self.assertIsNone(judge_bound(signs, picker, number, paper))
                self.assertEqual(number, max(picks.good_told(picker, counts) for counts in paper))
                with self.assertRaises(Missing):
                    spread_paper(signs, picker)
            else:
                paper = spread_paper(signs, picker)
                self.assertEqual(paper[0] == paper[1], word == "beyond")
                self.assertTrue(self.right(signs, picker, paper))
                self.assertIsNone(judge_spread(signs, picker, paper))
                with self.assertRaises(Missing):
                    bound_paper(signs, picker)
            size = 40 if all(arity < 2 for _, arity in signs) else 20
            greatest = picks.greatest_told(signs, picker, size, 30) if word != "beyond" else None
            if greatest and word == "none":
                self.assertLessEqual(greatest[-1], number)
            if greatest and word == "power":
                self.assertLess(abs(math.log2(greatest[-1] / max(1, greatest[size // 2])) - number), 1.7)

    def right(self, signs, picker, paper):
        one, other, tree, inner, outer = paper
        many, _, goods = picker
        if not (0 <= one < many and 0 <= other < many and is_surrounding(signs, inner) and is_surrounding(signs, outer)):
            return False
        inside = [picks.led_told(signs, picker, inner, state) for state in range(many)]
        ends = sum(picks.led_told(signs, picker, outer, other)[good] for good in goods)
        leads = min(inside[one][one], inside[one][other], inside[other][other]) >= (2 if one == other else 1)
        return picks.counts_told(signs, picker, tree)[one] >= 1 and ends >= 1 and leads

    def test_judge_by_chance(self):
        chooser = random.Random(122)
        right = 0
        for _ in range(2500):
            signs = chooser.choice([SIGNS, LETTERS])
            picker = picks.some_picker(chooser, signs, chooser.randint(1, 3), 0.5)
            small = [tree for size in range(1, 4) for tree in trees_of(signs, size)]
            values = ["x", *[("pair", "x", tree) for tree in small], *[("pair", tree, "y") for tree in small], ("s", "x"), ("s", ("s", "x")), Z]
            paper = (chooser.randrange(-1, 4), chooser.randrange(3), chooser.choice(small), chooser.choice(values), chooser.choice(values))
            if self.right(signs, picker, paper):
                right += 1
                self.assertIsNone(judge_spread(signs, picker, paper))
            else:
                with self.assertRaises(BadPaper):
                    judge_spread(signs, picker, paper)
                with self.assertRaises(BadPaper):
                    times_for(signs, picker, paper, 3)
        self.assertGreater(right, 15)

    def test_greatest(self):
        chooser = random.Random(123)
        start = time.perf_counter()
        for often in [0.02, 0.05, 0.1, 0.3, 1]:
            picker = picks.some_picker(chooser, BIG, 6, often)
            for ask in [spread, spread_paper, bound_paper, useful_states]:
                try:
                    ask(BIG, picker)
                except (TooLarge, Missing):
                    pass
        self.assertLess(time.perf_counter() - start, 5)


class JudgeSpreadTest(unittest.TestCase):
    def bad(self, paper, signs=SIGNS, picker=LEAF):
        with self.assertRaises(BadPaper):
            judge_spread(signs, picker, paper)
        with self.assertRaises(BadPaper):
            times_for(signs, picker, paper, 0)

    def test_each_sentence(self):
        one, other, tree, inner, outer = PAPER
        for state in [-1, 2, 10 ** 20]:
            self.bad((state, other, tree, inner, outer))
            self.bad((one, state, tree, inner, outer))
        for value in [Z, ("pair", "x", "x"), ("pair", "x", "y"), "z", "", ("s", "x"), ("pair", "x"), ()]:
            self.bad((one, other, tree, value, outer))
            self.bad((one, other, tree, inner, value))
        self.bad((1, 1, tree, inner, outer))
        self.bad((0, 0, tree, inner, outer))
        self.bad((1, 0, tree, inner, outer))
        self.bad((one, other, tree, "x", outer))
        # No way of the tree to the first state; no way from the second to a good one.
        lone = (3, ((0, 1), (((0,), (1,), ()), ((1,), (), ()), ((), (), ()))), (1,))
        self.assertIsNone(judge_spread(SIGNS, lone, PAPER))
        self.bad((2, 1, tree, inner, outer), SIGNS, lone)
        self.bad(PAPER, SIGNS, (*LEAF[:2], (0,)))
        self.bad(PAPER, SIGNS, (*LEAF[:2], ()))
        start = (2, ((1,), (((0,), (1,)), ((0, 1), ()))), (1,))
        self.bad((0, 1, Z, inner, outer), SIGNS, start)

    def test_more_than_one_way_for_the_same_state(self):
        two = (1, ((0,), ((0,),)), (0,))
        self.bad((0, 0, Z, ("s", "x"), "x"), LETTERS, two)
        both = (2, ((0,), ((1,), (0, 1))), (0, 1))
        self.bad((0, 0, Z, ("s", ("s", "x")), "x"), LETTERS, both)
        self.bad((1, 1, Z, ("s", ("s", "x")), "x"), LETTERS, both)
        self.assertIsNone(judge_spread(LETTERS, both, (1, 1, ("s", Z), ("s", ("s", "x")), "x")))
        self.assertIsNone(judge_spread(LETTERS, both, (0, 1, Z, ("s", ("s", ("s", "x"))), "x")))


class TimesTest(unittest.TestCase):
    def slowly(self, signs, picker, paper, most):
        _, _, tree, inner, outer = paper
        times = 0
        while count_ways(signs, picker, make(outer, tree)) <= most:
            tree = make(inner, tree)
            times += 1
        return times

    def test_small_numbers(self):
        for most in range(70):
            self.assertEqual(times_for(SIGNS, LEAF, PAPER, most), self.slowly(SIGNS, LEAF, PAPER, most))
        self.assertEqual(times_for(SIGNS, LEAF, PAPER, 0), 0)

    def test_great_numbers(self):
        start = time.perf_counter()
        for most in [10 ** 6, 10 ** 30, 2 ** 200 - 1, 10 ** 300]:
            self.assertEqual(times_for(SIGNS, LEAF, PAPER, most), most)
        # Two of the signs are chosen, of which there are one more than put in.
        picker = chooser_of(2)
        paper = (0, 1, ("s", Z), ("s", "x"), ("s", "x"))
        self.assertIsNone(judge_spread(LETTERS, picker, paper))
        for most in [0, 1, 9, 10, 11, 10 ** 40]:
            times = times_for(LETTERS, picker, paper, most)
            self.assertGreater((times + 2) * (times + 1) // 2, most)
            self.assertTrue(times == 0 or (times + 1) * times // 2 <= most)
        double = (2, ((0,), ((1,), (0, 1))), (0, 1))
        self.assertLess(times_for(LETTERS, double, (1, 1, ("s", Z), ("s", ("s", "x")), "x"), 10 ** 200), 1000)
        self.assertLess(time.perf_counter() - start, 5)

    def test_numbers_that_go_up_and_down(self):
        """Other states go round in circles, so the first time that is enough may be ahead of times that are not."""
        chooser = random.Random(124)
        falls = 0
        for _ in range(30):
            others = [2, 3, 4, 5]
            chooser.shuffle(others)
            leaf = (0, *sorted(chooser.sample(range(2, 6), 2)))
            goods = (1, *sorted(chooser.sample(range(2, 6), 2)))
            picker = (6, (leaf, ((0, 1), (1,), *[(state,) for state in others])), goods)
            paper = (0, 1, Z, ("s", "x"), "x")
            numbers = []
            tree = Z
            for _ in range(60):
                numbers.append(count_ways(LETTERS, picker, tree))
                tree = ("s", tree)
            falls += any(one > other for one, other in zip(numbers, numbers[1:]))
            for most in range(40):
                first = next(at for at, number in enumerate(numbers) if number > most)
                self.assertEqual(times_for(LETTERS, picker, paper, most), first)
            # All circles together take 12 times at most, or a part of that.
            for most in range(3):
                great = times_for(LETTERS, picker, paper, 12 * 10 ** 29 + most)
                self.assertEqual(great - 12 * 10 ** 29, times_for(LETTERS, picker, paper, 120 + most) - 120)
        self.assertGreater(falls, 1)

    def test_circles_of_all_lengths(self):
        """A tall circle of three and one of two states beside a slow growth: the numbers go up and down by turns."""
        entry = ((0, 1), (1,), (3,), (4,), (2,), (5,))
        picker = (6, ((0, 2), entry), (1, 2))
        paper = (0, 1, Z, ("s", "x"), "x")
        self.assertIsNone(judge_spread(LETTERS, picker, paper))
        for most in [*range(12), 10 ** 3, 10 ** 3 + 1, 10 ** 3 + 2, 10 ** 50, 10 ** 50 + 1, 10 ** 50 + 2]:
            times = times_for(LETTERS, picker, paper, most)
            # After so many times there are as many ways, and one more at each third time.
            expected = most if most % 3 == 0 else most + 1
            self.assertEqual(times, expected)


class BoundTest(unittest.TestCase):
    TWO = (3, ((0,), ((1, 2), (1,), (2,))), (1, 2))

    def bad(self, paper, number=2, picker=TWO):
        with self.assertRaises(BadPaper):
            judge_bound(LETTERS, picker, number, paper)

    def test_each_sentence(self):
        first = ((0, 1, 1), (1, 0, 0))
        self.assertEqual(bound_paper(LETTERS, self.TWO), first)
        self.assertIsNone(judge_bound(LETTERS, self.TWO, 2, first))
        self.assertIsNone(judge_bound(LETTERS, self.TWO, 10 ** 30, first))
        self.bad(())
        self.bad(first[:1])
        self.bad(first[1:])
        self.bad(first[::-1])
        self.bad((first[0], *first))
        self.bad(first, 1)
        self.bad(first, -1)
        for counts in [(0, 0), (0, 0, 0, 0), (), (0, -1, 0), (-1, 0, 0)]:
            self.bad(tuple(sorted([counts, *first])))

    def test_more_tuples(self):
        self.assertIsNone(judge_bound(LETTERS, self.TWO, 2, ((0, 0, 0), (0, 1, 1), (1, 0, 0))))
        self.assertIsNone(judge_bound(LETTERS, self.TWO, 4, ((0, 1, 1), (0, 2, 2), (1, 0, 0), (2, 0, 0))))
        self.bad(((0, 1, 1), (0, 2, 2), (1, 0, 0), (2, 0, 0)), 3)
        self.bad(((0, 1, 1), (1, 0, 0), (2, 0, 0)), 4)

    def test_states_that_are_not_useful(self):
        aside = (3, ((0, 1), ((0,), (1, 2), (2,))), (0,))
        self.assertIsNone(judge_bound(LETTERS, aside, 1, ((1, 0, 0),)))
        self.bad(((1, 1, 0),), 1, aside)
        self.bad(((1, 0, 0), (1, 0, 5)), 1, aside)

    def test_all_small_papers(self):
        chooser = random.Random(125)
        right = 0
        for _ in range(8):
            picker = picks.some_picker(chooser, LETTERS, 2, 0.4)
            useful = picks.useful_told(LETTERS, picker)
            every = list(itertools.product(range(3), repeat=2))
            for many in range(5):
                for paper in itertools.combinations(every, many):
                    closed = True
                    for sign, arity in LETTERS:
                        for parts in itertools.product(paper, repeat=arity):
                            counts = picks.counts_over_told(LETTERS, picker, sign, parts)
                            closed = closed and tuple(n if at in useful else 0 for at, n in enumerate(counts)) in paper
                    zero = all(not n or at in useful for counts in paper for at, n in enumerate(counts))
                    if closed and zero and all(picks.good_told(picker, counts) <= 2 for counts in paper):
                        right += 1
                        self.assertIsNone(judge_bound(LETTERS, picker, 2, paper))
                    else:
                        self.bad(paper, 2, picker)
        self.assertGreater(right, 10)

    def test_nothing_is_changed(self):
        before = repr((LEAF, PAPER, self.TWO))
        for _ in range(2):
            self.assertEqual(spread(SIGNS, LEAF), ("power", 1))
            self.assertEqual(spread(LETTERS, self.TWO), ("none", 2))
            self.assertEqual(times_for(SIGNS, LEAF, PAPER, 7), 7)
        self.assertEqual(repr((LEAF, PAPER, self.TWO)), before)
        self.assertLess(size_of(spread_paper(SIGNS, LEAF)[2]), 3)
        self.assertEqual(useful_states(ALL, (1, ((0,), ((),), (((),),)), (0,))), (0,))


if __name__ == "__main__":
    unittest.main()
