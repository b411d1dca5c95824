import itertools
import math
import random
import time
import unittest

import turns
from test_onebehind import LEFTS, over_one_sign
from test_stands import counter_of, same
from test_turners import ALL, DOUBLER, INS, MIXED, OUTS, PLAIN, Z
from pergola.copies import MAX_COUNTS, count_paper, growth, growth_paper, judge_counts, judge_growth
from pergola.errors import BadPaper, Missing, TooLarge
from pergola.order import trees_of
from pergola.stands import stands_of
from pergola.turners import counts_at

ONE_STATE = (((),), (0, (0,), ((0,),)))
WORDS = (("z", 0), ("s", 1), ("t", 1))


def pairs_of(first, *others):
    """A piece of pairs of some pieces."""
    for other in others:
        first = ("pair", first, other)
    return first


def chain_of_states(many):
    """A turner whose copies grow like a power: each state calls itself and the next one."""
    sides = [pairs_of((at, 0), (at + 1, 0)) for at in range(many)] + [(many, 0)]
    return over_one_sign(*sides)


def one_state(turner):
    """The reader with one state over the outs of a turner."""
    moves = {0: 0, 1: (0,), 2: ((0,),)}
    return (((),), tuple(moves[arity] for _, arity in turner[1]))


class Slow:
    """Stands, steps and counts as the document tells them."""

    def __init__(self, turner):
        self.turner = turner
        self.reader = one_state(turner)
        self.stands = [stand for stand, _ in stands_of(turner, self.reader)]
        self.states = len(turner[3])
        self.first = tuple(1 if state == 0 else 0 for state in range(self.states))
        self.starts = [at for at, (_, states) in enumerate(self.stands) if states[0] == 0]
        self.steps = {}
        for sign, arity in turner[0]:
            for stands in itertools.product(range(len(self.stands)), repeat=arity):
                for part in range(arity):
                    self.steps[(sign, stands, part)] = self.ends((sign, stands, part))

    def ends(self, step):
        sign, stands, part = step
        moves = self.reader[1]
        follows = turns.stand_after(self.turner, moves, sign, [self.stands[stand] for stand in stands])
        return self.stands.index(follows), stands[part]

    def behind(self, counts, step):
        sign, stands, part = step
        found = [0] * self.states
        for state in range(self.states):
            side = self.turner[3][state][turns.place(self.turner[0], sign)]
            for stand in stands:
                side = side[self.stands[stand][0]]
            for called, at in turns.calls_told(side):
                if at == part:
                    found[called] += counts[state]
        return tuple(found)

    def right_growth(self, paper):
        one, other, outer, inner = paper
        if not (0 <= one < self.states and 0 <= other < self.states) or not inner:
            return False
        if any(step not in self.steps for step in (*outer, *inner)):
            return False
        for way in [outer, inner]:
            if any(self.steps[first][1] != self.steps[second][0] for first, second in zip(way, way[1:])):
                return False
        stand = self.steps[inner[0]][0]
        if self.steps[inner[-1]][1] != stand:
            return False
        if outer and self.steps[outer[-1]][1] != stand:
            return False
        if (self.steps[outer[0]][0] if outer else stand) not in self.starts:
            return False
        if self.along(outer, self.first)[one] < 1:
            return False
        counts = self.along(inner, self.from_state(one))
        if one == other:
            return counts[one] >= 2
        return min(counts[one], counts[other], self.along(inner, self.from_state(other))[other]) >= 1

    def from_state(self, state):
        return tuple(1 if at == state else 0 for at in range(self.states))

    def along(self, way, counts):
        for step in way:
            counts = self.behind(counts, step)
        return counts

    def right_counts(self, number, paper):
        if list(paper) != sorted(set(paper)):
            return False
        for stand, counts in paper:
            if not 0 <= stand < len(self.stands) or len(counts) != self.states or min(counts) < 0 or sum(counts) > number:
                return False
        if any((stand, self.first) not in paper for stand in self.starts):
            return False
        return all(
            (to, self.behind(counts, step)) in paper
            for stand, counts in paper
            for step, (start, to) in self.steps.items()
            if start == stand
        )

    def greatest(self, length):
        """The greatest copies at paths of up to so many numbers, for each of these lengths; None if there are too many counts."""
        now = {(stand, self.first) for stand in self.starts}
        best = [max([sum(counts) for _, counts in now], default=0)]
        for _ in range(length):
            found = {(to, self.behind(counts, step)) for stand, counts in now for step, (start, to) in self.steps.items() if start == stand}
            now = set()
            for stand, counts in sorted(found, key=lambda pair: -sum(pair[1])):
                if not any(stand == other and all(map(int.__ge__, more, counts)) for other, more in now):
                    now.add((stand, counts))
            if len(now) > 60:
                return None
            best.append(max([best[-1], *[sum(counts) for _, counts in now]]))
        return best


class GrowthTest(unittest.TestCase):
    def test_examples(self):
        self.assertEqual(MAX_COUNTS, 2000)
        self.assertEqual(growth(DOUBLER), ("beyond", 0))
        self.assertEqual(growth_paper(DOUBLER), (0, 0, (), (("s", (0,), 0),)))
        self.assertIsNone(judge_growth(DOUBLER, growth_paper(DOUBLER)))
        self.assertEqual(growth(LEFTS), ("bounded", 1))

    def test_powers(self):
        for many in range(8):
            turner = chain_of_states(many)
            if many == 0:
                self.assertEqual(growth(turner), ("bounded", 1))
                with self.assertRaises(Missing):
                    growth_paper(turner)
            else:
                self.assertEqual(growth(turner), ("power", many))
                paper = growth_paper(turner)
                self.assertNotEqual(paper[0], paper[1])
                self.assertIsNone(judge_growth(turner, paper))
                self.assertTrue(Slow(turner).right_growth(paper))
                with self.assertRaises(Missing):
                    count_paper(turner)

    def test_beyond(self):
        for turner in [DOUBLER, over_one_sign(pairs_of((0, 0), (1, 0)), pairs_of((0, 0), (1, 0))), over_one_sign((1, 0), pairs_of((0, 0), (0, 0)))]:
            self.assertEqual(growth(turner), ("beyond", 0))
            one, other, outer, inner = growth_paper(turner)
            self.assertEqual(one, other)
            self.assertTrue(Slow(turner).right_growth((one, other, outer, inner)))
            with self.assertRaises(Missing):
                count_paper(turner)
        # Behind a power there may be one that goes beyond all; and it may be that it is never called.
        self.assertEqual(growth(over_one_sign(pairs_of((0, 0), (1, 0)), pairs_of((1, 0), (1, 0)))), ("beyond", 0))
        self.assertEqual(growth(over_one_sign((0, 0), pairs_of((1, 0), (1, 0)))), ("bounded", 1))

    def test_no_tree_is_turned(self):
        none = (INS, OUTS, PLAIN, (((), (("pair", (0, 0), (0, 0)),)),))
        self.assertEqual(growth(none), ("bounded", 0))
        self.assertEqual(count_paper(none), ())
        self.assertIsNone(judge_counts(none, 0, ()))
        self.assertIsNone(judge_counts(none, -1, ()))
        with self.assertRaises(Missing):
            growth_paper(none)
        # Where parts are called again and again, but only in trees that are not turned.
        stop = (INS, ALL, (((), ()), (0, (1, 1))), ((Z, (pairs_of((0, 0), (0, 0)), ())),))
        self.assertEqual(growth(stop), ("bounded", 2))

    def test_ways_must_come_together(self):
        """States that call one another along different signs, but both never along the same ones, do not grow."""
        looks = (((), ()), (0, (1, 1), (0, 0)))
        outs = (("z", 0), ("pair", 2))
        split = (WORDS, outs, looks, ((Z, (("pair", (0, 0), (1, 0)),) * 2, ((0, 0),) * 2), (Z, ((1, 0),) * 2, ((1, 0),) * 2)))
        self.assertEqual(growth(split), ("power", 1))
        # Along `s` the state 0 calls both, but the state 1 stops there.
        stops = (WORDS, outs, looks, ((Z, (("pair", (0, 0), (1, 0)),) * 2, ((0, 0),) * 2), (Z, (Z, Z), ((1, 0),) * 2)))
        self.assertEqual(growth(stops), ("bounded", 2))
        # There it calls only itself in one look, and only the other one in the other look.
        turn = (WORDS, outs, looks, ((Z, ((0, 0), (1, 0)), ((0, 0),) * 2), (Z, ((1, 0),) * 2, ((1, 0),) * 2)))
        self.assertEqual(growth(turn), ("bounded", 1))

    def test_bounded(self):
        wide = (INS, ALL, PLAIN, ((Z, (pairs_of((1, 0), (1, 0), (2, 0)),)), (Z, ((1, 0),)), (Z, (Z,))))
        self.assertEqual(growth(wide), ("bounded", 3))
        self.assertEqual(count_paper(wide), ((0, (0, 2, 0)), (0, (0, 2, 1)), (0, (1, 0, 0))))
        # The greatest copies may be at paths that few trees have.
        self.assertEqual(growth(same(INS, 5)), ("bounded", 1))
        self.assertEqual(growth(MIXED)[0], "bounded")

    def test_stands_that_are_too_many(self):
        looks = counter_of(24)
        sides = (((), (*[(0, 0)] * 11, Z, *[(1, 0)] * 12)), ((), (*[(1, 0)] * 7, Z, *[(0, 0)] * 16)))
        turner = (INS, INS, looks, sides)
        paper = (0, 0, (), ())
        for ask in [growth, growth_paper, count_paper]:
            with self.assertRaises(TooLarge):
                ask(turner)
        with self.assertRaises(TooLarge):
            judge_growth(turner, paper)
        with self.assertRaises(TooLarge):
            judge_counts(turner, 0, ())

    def test_chance(self):
        """Growths are those of the greatest copies at long paths, and papers are right."""
        chooser = random.Random(104)
        seen = {"bounded": 0, "power": 0, "beyond": 0}
        most = {"bounded": 60, "power": 40, "beyond": 30}
        while any(seen[word] < most[word] for word in seen):
            ins, outs = chooser.choice(turns.SHAPES), chooser.choice(turns.SHAPES)
            turner = turns.some_turner(chooser, ins, outs, chooser.choice([1, 1, 2]), chooser.choice([2, 3, 3]), chooser.choice([3, 4]), 0.05)
            try:
                word, number = growth(turner)
            except TooLarge:
                continue
            if seen[word] >= most[word]:
                continue
            slow = Slow(turner)
            greatest = slow.greatest(24)
            if greatest is None:
                continue
            seen[word] += 1
            if word == "bounded":
                self.assertEqual(greatest[-1], number)
                paper = count_paper(turner)
                self.assertTrue(slow.right_counts(number, paper))
                self.assertIsNone(judge_counts(turner, number, paper))
                with self.assertRaises(Missing):
                    growth_paper(turner)
                if paper:
                    with self.assertRaises(BadPaper):
                        judge_counts(turner, number - 1, paper)
            else:
                paper = growth_paper(turner)
                self.assertTrue(slow.right_growth(paper))
                self.assertIsNone(judge_growth(turner, paper))
                self.assertEqual(paper[0] == paper[1], word == "beyond")
                with self.assertRaises(Missing):
                    count_paper(turner)
                ratio = math.log2(greatest[24] / greatest[12])
                self.assertLess(abs(ratio - number) if word == "power" else 3.9 - ratio, 0.9)

    def test_counts_at_paths(self):
        """No copies at a path of a small tree exceed the number, and some path has just so many."""
        chooser = random.Random(105)
        tried = 0
        while tried < 40:
            ins = chooser.choice(turns.SHAPES)
            turner = turns.some_turner(chooser, ins, chooser.choice(turns.SHAPES), 1, 2, 4, 0.1)
            word, number = growth(turner)
            if word == "bounded":
                tried += 1
                copies = [0]
                for size in range(1, 7):
                    for tree in trees_of(ins, size)[:15]:
                        if turns.turned_told(turner, 0, tree) is not None:
                            copies += [sum(counts_at(turner, tree, path)) for path in turns.paths_in(tree)]
                self.assertLessEqual(max(copies), number)

    def test_great_turners(self):
        chooser = random.Random(106)
        signs = (("z", 0), ("pair", 2), ("node", 2), ("join", 2))
        start = time.perf_counter()
        for looks, size, empty in [(24, 24, 0), (24, 3, 0), (24, 3, 0.01), (24, 1, 0), (6, 12, 0)]:
            turner = turns.some_turner(chooser, signs, signs, looks, 8, size, empty)
            for ask in [growth, growth_paper, count_paper]:
                try:
                    ask(turner)
                except (Missing, TooLarge):
                    pass
        self.assertLess(time.perf_counter() - start, 15)

    def test_powers_of_great_turners(self):
        """Eight states, each of which calls itself and, here and there, later ones."""
        chooser = random.Random(107)
        signs = (("z", 0), ("pair", 2), ("node", 2), ("join", 2))
        look = tuple(tuple((one + other + 1) % 24 for other in range(24)) for one in range(24))

        def side(state):
            later = [(chooser.randrange(state, 8), chooser.randrange(2)) for _ in range(2) if chooser.random() < 0.3]
            return pairs_of((state, 0), *[call for call in later if call[0] > state])

        sides = tuple((Z, *[tuple(tuple(side(state) for _ in range(24)) for _ in range(24)) for _ in range(3)]) for state in range(8))
        turner = (signs, signs, (((),) * 24, (0, look, look, look)), sides)
        start = time.perf_counter()
        self.assertEqual(growth(turner), ("power", 7))
        self.assertIsNone(judge_growth(turner, growth_paper(turner)))
        self.assertLess(time.perf_counter() - start, 15)


class CountPaperTest(unittest.TestCase):
    def test_circles(self):
        for many in range(1, 9):
            turner = over_one_sign(*[((at + 1) % many, 0) for at in range(many)])
            self.assertEqual(len(count_paper(turner)), many)
            self.assertEqual(growth(turner), ("bounded", 1))

    def test_2000_and_2001_pairs(self):
        turner = ladder_of_pairs(False)
        paper = count_paper(turner)
        self.assertEqual(len(paper), 2000)
        self.assertEqual(growth(turner), ("bounded", 23))
        self.assertIsNone(judge_counts(turner, 23, paper))
        self.refused(turner, 22, paper)
        self.refused(turner, 23, paper[:-1])
        beyond = ladder_of_pairs(True)
        for ask in [count_paper, growth]:
            with self.assertRaises(TooLarge):
                ask(beyond)
        with self.assertRaises(Missing):
            growth_paper(beyond)
        # The judge has no bound.
        last = [stand for stand, _ in stands_of(beyond, one_state(beyond))].index((0, (0, 0, 0)))
        self.assertIsNone(judge_counts(beyond, 23, tuple(sorted([*paper, (last, (0, 0, 0))]))))
        self.refused(beyond, 23, paper)

    def test_each_pair_is_needed(self):
        turner = (INS, ALL, PLAIN, ((Z, (pairs_of((1, 0), (1, 0), (2, 0)),)), (Z, ((1, 0),)), (Z, (Z,))))
        paper = count_paper(turner)
        slow = Slow(turner)
        self.assertIsNone(judge_counts(turner, 3, paper))
        self.assertIsNone(judge_counts(turner, 10 ** 30, paper))
        for at in range(len(paper)):
            self.refused(turner, 3, (*paper[:at], *paper[at + 1:]))
            self.refused(turner, 3, (*paper[:at], paper[at], *paper[at:]))
        self.refused(turner, 3, paper[::-1])
        self.refused(turner, 2, paper)
        self.refused(turner, 3, ())
        for pair in [(1, (0, 0, 0)), (-1, (0, 0, 0)), (0, (0, 0)), (0, (0, 0, 0, 0)), (0, (0, -1, 0)), (0, ())]:
            self.refused(turner, 3, tuple(sorted([pair, *paper])))
        self.assertTrue(slow.right_counts(3, paper))

    def refused(self, turner, number, paper):
        with self.assertRaises(BadPaper):
            judge_counts(turner, number, paper)

    def test_more_pairs(self):
        """Further pairs are right if what comes of them is there, too."""
        turner = over_one_sign((1, 0), (0, 0))
        self.assertEqual(count_paper(turner), ((0, (0, 1)), (0, (1, 0))))
        for paper in [((0, (0, 0)), (0, (0, 1)), (0, (1, 0))), ((0, (0, 1)), (0, (1, 0)), (0, (2, 3)), (0, (3, 2)))]:
            self.assertIsNone(judge_counts(turner, 5, paper))
        self.refused(turner, 4, ((0, (0, 1)), (0, (1, 0)), (0, (2, 3)), (0, (3, 2))))
        self.refused(turner, 5, ((0, (0, 1)), (0, (1, 0)), (0, (2, 3))))

    def test_pairs_of_states_that_do_not_turn(self):
        """Counts go on as told also where a state does not turn the trees of a stand."""
        looks = (((), ()), (0, (1, 1)))
        turner = (INS, ALL, looks, ((Z, ((0, 0), (0, 0))), ((), (("s", (1, 0)), ("s", (1, 0))))))
        paper = count_paper(turner)
        more = tuple(sorted([*paper, *[(stand, (0, 1)) for stand in range(2)]]))
        self.assertIsNone(judge_counts(turner, 1, more))
        self.refused(turner, 1, tuple(sorted([*paper, (1, (0, 1))])))

    def test_all_small_papers(self):
        looks = (((), ()), (0, (1, 1)))
        turner = (INS, ALL, looks, ((Z, (("pair", (1, 0), (1, 0)), (0, 0))), (Z, ((1, 0), Z))))
        slow = Slow(turner)
        every = [(stand, (first, second)) for stand in range(2) for first in range(2) for second in range(3)]
        right = 0
        for many in range(7):
            for paper in itertools.combinations(every, many):
                if slow.right_counts(3, paper):
                    right += 1
                    self.assertIsNone(judge_counts(turner, 3, paper))
                else:
                    self.refused(turner, 3, paper)
        self.assertGreater(right, 3)


def ladder_of_pairs(extra):
    """A turner of which 2000 pairs are met, and one more if asked for.

    It turns trees of up to 23 signs. Each sign that is gone by adds a call of
    the state 1 or 2, as the sign says; at three heights both signs say the same.
    """
    signs = (("z", 0), ("s", 1), ("t", 1), ("w", 1))
    heights = (*range(1, 24), 23)
    reader = (((),) * 24, (0, heights, heights, heights))
    one, other = ("pair", (0, 0), (1, 0)), ("pair", (0, 0), (2, 0))
    ones = (one,) * 22 + ((), ())
    others = tuple(one if height in (1, 8, 11) else other for height in range(22)) + ((), ())
    # The sign `w` may drop all copies at the lowest place.
    last = Z if extra else one
    first = (Z, ones, others, (last, *ones[1:]))
    rest = [(Z, ((at, 0),) * 24, ((at, 0),) * 24, (Z if extra else (at, 0), *[(at, 0)] * 23)) for at in (1, 2)]
    return (signs, OUTS, reader, (first, *rest))


class JudgeTest(unittest.TestCase):
    STEP = ("s", (0,), 0)

    def refused(self, turner, paper):
        with self.assertRaises(BadPaper):
            judge_growth(turner, paper)

    def test_right(self):
        step = self.STEP
        for paper in [(0, 0, (), (step,)), (0, 0, (step,), (step,)), (0, 0, (step,) * 5, (step,) * 300)]:
            self.assertIsNone(judge_growth(DOUBLER, paper))
        chained = chain_of_states(2)
        self.assertIsNone(judge_growth(chained, (0, 1, (), (step,))))
        self.assertIsNone(judge_growth(chained, (1, 2, (step,), (step,))))
        self.assertIsNone(judge_growth(chained, (0, 2, (), (step, step))))

    def test_each_sentence(self):
        step = self.STEP
        chained = chain_of_states(2)
        self.refused(DOUBLER, (0, 0, (), ()))
        self.refused(DOUBLER, (0, 0, (step,), ()))
        for one, other in [(1, 1), (-1, -1), (0, 1), (1, 0), (0, -1), (5, 0)]:
            self.refused(DOUBLER, (one, other, (), (step,)))
        # No steps: other signs, other stands, other parts.
        for wrong in [("z", (), 0), ("s", (1,), 0), ("s", (-1,), 0), ("s", (0,), 1), ("s", (0,), -1), ("s", (0, 0), 0), ("s", (), 0), ("pair", (0, 0), 0), ("", (0,), 0)]:
            self.refused(DOUBLER, (0, 0, (), (wrong,)))
            self.refused(DOUBLER, (0, 0, (wrong,), (step,)))
            self.refused(DOUBLER, (0, 0, (), (step, wrong)))
        # The outer way is to lead to the first state.
        self.refused(chained, (1, 2, (), (step,)))
        self.refused(chained, (2, 1, (step,), (step,)))
        # The counts do not come to what is asked.
        self.refused(chained, (0, 0, (), (step,)))
        self.refused(chained, (1, 0, (step,), (step,)))
        self.refused(chained, (0, 2, (), (step,)))
        self.refused(over_one_sign((1, 0), pairs_of((0, 0), (0, 0))), (0, 0, (), (step,)))
        self.assertIsNone(judge_growth(over_one_sign((1, 0), pairs_of((0, 0), (0, 0))), (0, 0, (), (step, step))))
        # The second state does not come to itself.
        self.refused(over_one_sign(pairs_of((0, 0), (1, 0)), Z), (0, 1, (), (step,)))

    def test_stands(self):
        """Steps lead on from stand to stand; the inner way comes back, and the outer one leads to it."""
        looks = (((), ()), (0, (1, 0)))
        sides = ((Z, (("pair", (0, 0), (0, 0)),) * 2), ((), (Z, Z)))
        turner = (INS, OUTS, looks, sides)
        slow = Slow(turner)
        self.assertEqual(len(slow.stands), 3)
        steps = sorted(slow.steps)
        right = 0
        for outer_many, inner_many in itertools.product(range(3), range(1, 4)):
            for outer in itertools.product(steps, repeat=outer_many):
                for inner in itertools.product(steps, repeat=inner_many):
                    paper = (0, 0, outer, inner)
                    if slow.right_growth(paper):
                        right += 1
                        self.assertIsNone(judge_growth(turner, paper))
                    else:
                        self.refused(turner, paper)
        self.assertGreater(right, 3)

    def test_first_stand_is_turned(self):
        """The outer way begins at a stand whose trees the state 0 turns."""
        turner = (WORDS, OUTS, (((), ()), (0, (0, 1), (1, 1))), (((), (("pair", (0, 0), (0, 0)),) * 2, (Z, ("pair", (0, 0), (0, 0)))),))
        self.assertIsNone(judge_growth(turner, growth_paper(turner)))
        slow = Slow(turner)
        self.assertEqual([states for _, states in slow.stands], [(-1,), (0,)])
        for paper in [(0, 0, (), (("s", (0,), 0),)), (0, 0, (("s", (0,), 0),), (("s", (0,), 0),))]:
            self.refused(turner, paper)

    def test_long_ways(self):
        start = time.perf_counter()
        self.assertIsNone(judge_growth(DOUBLER, (0, 0, (self.STEP,) * 3000, (self.STEP,) * 3000)))
        self.assertLess(time.perf_counter() - start, 1)

    def test_chance(self):
        chooser = random.Random(108)
        right = 0
        for _ in range(150):
            turner = turns.some_turner(chooser, chooser.choice(turns.SHAPES[:3]), OUTS, chooser.choice([1, 2]), 2, 4, 0.1)
            slow = Slow(turner)
            steps = sorted(slow.steps)
            for _ in range(20):
                ways = [tuple(chooser.choice(steps) for _ in range(chooser.randint(low, 2))) for low in (0, 1)]
                paper = (chooser.randrange(2), chooser.randrange(2), *ways)
                if slow.right_growth(paper):
                    right += 1
                    self.assertIsNone(judge_growth(turner, paper))
                else:
                    self.refused(turner, paper)
        self.assertGreater(right, 30)

    def test_nothing_is_changed(self):
        turner = chain_of_states(2)
        before = repr(turner)
        for _ in range(2):
            self.assertEqual(growth(turner), ("power", 2))
            self.assertEqual(growth_paper(turner), growth_paper(turner))
            growth(DOUBLER)
        self.assertEqual(repr(turner), before)


if __name__ == "__main__":
    unittest.main()
