import itertools
import random
import time
import unittest

from test_readers import apart, some_reader
from test_samples import some_tree
from pergola.alike import part_readers
from pergola.errors import BadPaper, TooLarge
from pergola.forcing import MAX_FORCED, forcing_of, judge_forcing
from pergola.order import trees_of
from pergola.readers import least_of, read_tree
from pergola.samples import check_sample, fits, is_surrounding, make
from pergola.sortings import first_sorting, reader_of
from pergola.table import row_of
from pergola.terms import size_of

SIGNS = (("z", 0), ("s", 1))
PAIRS = (("z", 0), ("pair", 2))
ALL = (("z", 0), ("s", 1), ("pair", 2))
BIG = (("z", 0), ("pair", 2), ("node", 2), ("join", 2))
SHAPES = [SIGNS, PAIRS, ALL, (("z", 0), ("s", 1), ("t", 1)), (("x", 0), ("y", 0), ("pair", 2)), (("x", 0), ("y", 1), ("z", 1), ("u", 2))]
Z = ("z",)
ONE = ("s", Z)
READER = (((), ("odd",)), (0, (1, 0)))
SAMPLE = ((Z, ()), (ONE, ("odd",)), (("s", ONE), ()))
PAPER = ((Z, ONE), ("x",))


def circle(many):
    """A reader of rows of signs that goes round many states, one of which has a label."""
    return (((("last",),) + ((),) * (many - 1)), (0, (*range(1, many), 0)))


def right_told(signs, reader, sample, paper):
    """Whether a paper is right, as [10.6] tells it."""
    trees, surroundings = paper
    known = dict(sample)
    if not trees or not fits(signs, reader, sample) or any(tree not in known for tree in trees):
        return False

    def parts(one, other):
        made = [(make(surrounding, one), make(surrounding, other)) for surrounding in surroundings]
        return any(first in known and second in known and known[first] != known[second] for first, second in made)

    if any(not parts(one, other) for one, other in itertools.combinations(trees, 2)):
        return False
    pairs = apart(signs, reader, reached(signs, reader))
    for sign, arity in signs:
        for row in itertools.product(trees, repeat=arity):
            tree = (sign, *row)
            state = row_of(signs, reader[1], tree, {})
            good = [other for other in trees if (state, row_of(signs, reader[1], other, {})) not in pairs]
            if len(good) != 1 or any(other != good[0] and not parts(tree, other) for other in trees):
                return False
    return True


def reached(signs, reader):
    found = set()
    while True:
        more = set()
        for entry, (_, arity) in zip(reader[1], signs):
            for states in itertools.product(sorted(found), repeat=arity):
                state = entry
                for inner in states:
                    state = state[inner]
                more.add(state)
        if more <= found:
            return sorted(found)
        found |= more


class ForcingTest(unittest.TestCase):
    def test_examples(self):
        self.assertIsNone(judge_forcing(SIGNS, READER, SAMPLE, PAPER))
        with self.assertRaises(BadPaper):
            judge_forcing(SIGNS, READER, SAMPLE[:2], PAPER)
        forced, paper = forcing_of(SIGNS, READER)
        self.assertIsNone(judge_forcing(SIGNS, READER, forced, paper))
        self.assertEqual(MAX_FORCED, 8)

    def test_states(self):
        """Least readers with 1 to 8 states are forced, with 9 states none are."""
        for many in range(1, 11):
            if many <= 8:
                sample, paper = forcing_of(SIGNS, circle(many))
                self.assertEqual(len(paper[0]), many)
                self.assertIsNone(judge_forcing(SIGNS, circle(many), sample, paper))
            else:
                with self.assertRaises(TooLarge):
                    forcing_of(SIGNS, circle(many))

    def test_states_that_are_alike_or_that_no_tree_has(self):
        reader = (((), ("odd",), (), ("odd",), ("no",)) + ((),) * 19, (0, (1, 2, 3, 0) + tuple(range(4, 24))))
        sample, paper = forcing_of(SIGNS, reader)
        self.assertEqual(len(paper[0]), 2)
        self.assertIsNone(judge_forcing(SIGNS, reader, sample, paper))
        # The paper is right for the reader itself and for its least reader.
        self.assertIsNone(judge_forcing(SIGNS, least_of(SIGNS, reader), sample, paper))

    def test_chance(self):
        chooser = random.Random(138)
        seen = set()
        for _ in range(150):
            signs = chooser.choice(SHAPES)
            reader = some_reader(chooser, signs, chooser.randint(1, 9), chooser.randint(1, 3))
            least = least_of(signs, reader)
            if len(least[0]) > 8:
                with self.assertRaises(TooLarge):
                    forcing_of(signs, reader)
                continue
            sample, paper = forcing_of(signs, reader)
            seen.add(len(least[0]))
            self.assertIsNone(check_sample(signs, sample))
            self.assertTrue(all(is_surrounding(signs, surrounding) for surrounding in paper[1]))
            self.assertEqual(len(paper[0]), len(least[0]))
            self.assertTrue(right_told(signs, reader, sample, paper))
            self.assertIsNone(judge_forcing(signs, reader, sample, paper))
        self.assertGreater(len(seen), 5)

    def test_the_reader_is_forced(self):
        """Each reader with so few states that fits is alike: that of the first sorting, and readers by chance."""
        chooser = random.Random(139)
        for _ in range(40):
            signs = chooser.choice([SIGNS, PAIRS, ALL])
            reader = some_reader(chooser, signs, chooser.randint(1, 3), 2)
            least = least_of(signs, reader)
            sample, _ = forcing_of(signs, reader)
            many = len(least[0])
            sorting = first_sorting(signs, sample, many)
            self.assertIsNone(part_readers(signs, reader_of(signs, sample, sorting), reader))
            if many > 1:
                self.assertIsNone(first_sorting(signs, sample, many - 1))
            for _ in range(20):
                other = some_reader(chooser, signs, many, 2)
                if fits(signs, other, sample):
                    self.assertIsNone(part_readers(signs, other, reader))

    def test_great_trees(self):
        """Least trees of up to 255 signs: the sample has trees of more than 400 signs."""
        moves = (0, tuple(tuple((one + 1) % 8 if one == other else 0 for other in range(8)) for one in range(8)))
        reader = (((),) * 7 + (("last",),), moves)
        start = time.perf_counter()
        sample, paper = forcing_of(PAIRS, reader)
        self.assertEqual(max(size_of(tree) for tree in paper[0]), 255)
        self.assertGreater(max(size_of(tree) for tree, _ in sample), 400)
        self.assertIsNone(check_sample(PAIRS, sample))
        self.assertIsNone(judge_forcing(PAIRS, reader, sample, paper))
        chooser = random.Random(140)
        for _ in range(5):
            reader = some_reader(chooser, BIG, 8, 2)
            sample, paper = forcing_of(BIG, reader)
            self.assertIsNone(judge_forcing(BIG, reader, sample, paper))
        self.assertLess(time.perf_counter() - start, 5)

    def test_nothing_is_kept(self):
        first = forcing_of(SIGNS, READER)
        self.assertEqual(forcing_of(SIGNS, circle(3)), forcing_of(SIGNS, circle(3)))
        self.assertEqual(forcing_of(SIGNS, READER), first)


class JudgeTest(unittest.TestCase):
    def bad(self, paper, sample=SAMPLE, reader=READER, signs=SIGNS):
        with self.assertRaises(BadPaper):
            judge_forcing(signs, reader, sample, paper)

    def test_right(self):
        more = (*SAMPLE, (("s", ("s", ONE)), ("odd",)))
        for paper in [PAPER, ((ONE, Z), ("y",)), ((Z, ONE), ("x", ("s", "x"))), ((Z, ("s", ("s", ONE))), ("x",))]:
            sample = more if paper[0][1] == ONE or paper[0][0] == ONE else (*more, (("s", ("s", ("s", ONE))), ()))
            self.assertIsNone(judge_forcing(SIGNS, READER, sample, paper))

    def test_the_reader_does_not_fit(self):
        self.bad(PAPER, (*SAMPLE, (("s", ("s", ONE)), ())))
        self.bad(PAPER, ((Z, ("odd",)), *SAMPLE[1:]))
        self.bad(PAPER, SAMPLE, ((("odd",), ()), (0, (1, 0))))

    def test_trees(self):
        self.bad(((), ("x",)))
        self.bad(((), ()), ())
        self.bad(((Z,), ("x",)))
        self.bad(((Z, ("s", ("s", ONE))), ("x",)))
        self.bad(((Z, ONE, Z), ("x",)))
        self.bad(((Z, Z), ("x",)))
        self.bad(((Z, ONE, ("s", ONE)), ("x",)))

    def test_surroundings(self):
        self.bad((PAPER[0], ()))
        self.bad((PAPER[0], (("s", "x"),)))
        self.assertIsNone(judge_forcing(SIGNS, READER, (*SAMPLE, (("s", ("s", ONE)), ("odd",))), (PAPER[0], (("s", "x"),))))

    def test_a_tree_that_is_parted_from_too_few(self):
        self.bad(PAPER, SAMPLE[:2])
        self.bad(PAPER, (*SAMPLE[:2], (("s", ("s", ONE)), ("odd",))))
        three = circle(3)
        trees = (Z, ONE, ("s", ONE))
        sample = tuple((tree, read_tree(SIGNS, three, tree)) for tree in [Z, ONE, ("s", ONE), ("s", ("s", ONE)), ("s", ("s", ("s", ONE)))])
        self.assertIsNone(judge_forcing(SIGNS, three, sample, (trees, ("x", ("s", "x")))))
        self.assertIsNone(judge_forcing(SIGNS, three, sample[:4], (trees, ("x", ("s", "x")))))
        self.bad((trees, ("x", ("s", "x"))), sample[:3], three)
        self.bad((trees, ("x",)), sample, three)

    def test_as_good_as_none_or_two(self):
        """A tree over the trees of the paper is as good as just one of them."""
        three = circle(3)
        sample = tuple((tree, read_tree(SIGNS, three, tree)) for tree in [Z, ONE, ("s", ONE), ("s", ("s", ONE)), ("s", ("s", ("s", ONE)))])
        self.bad(((Z, ONE), ("x", ("s", "x"))), sample, three)
        self.bad(((Z,), ("x",)), sample, three)
        alike = (((), ("odd",), ()), (0, (1, 2, 1)))
        self.assertIsNone(judge_forcing(SIGNS, alike, SAMPLE, PAPER))
        # The surroundings that count are all there are, not those of the paper.
        lone = (((), ()), (0, (1, 1)))
        self.assertIsNone(judge_forcing(SIGNS, lone, ((Z, ()),), ((Z,), ("x",))))

    def test_chance(self):
        """Papers with something changed are judged as told."""
        chooser = random.Random(141)
        seen = {True: 0, False: 0}
        while min(seen.values()) < 100:
            signs = chooser.choice([SIGNS, PAIRS, ALL])
            reader = some_reader(chooser, signs, chooser.randint(1, 4), 2)
            sample, (trees, surroundings) = forcing_of(signs, reader)
            way = chooser.randrange(6)
            if way == 0:
                sample = tuple(pair for pair in sample if chooser.random() < 0.9)
            elif way == 1:
                trees = tuple(tree for tree in trees if chooser.random() < 0.8)
            elif way == 2:
                surroundings = tuple(other for other in surroundings if chooser.random() < 0.7)
            elif way == 3:
                trees = (*trees, chooser.choice(sample)[0])
            elif way == 4:
                small = [tree for size in range(1, 6) for tree in trees_of(signs, size)]
                extra = [(tree, read_tree(signs, reader, tree)) for tree in small if tree not in dict(sample)]
                sample = (*sample, *extra)
                trees = tuple(chooser.choice(small) if chooser.random() < 0.3 else tree for tree in trees)
            else:
                tree = some_tree(chooser, signs, 6)
                if tree not in dict(sample):
                    sample = (*sample, (tree, ("a",)))
            expected = right_told(signs, reader, sample, (trees, surroundings))
            seen[expected] += 1
            if expected:
                self.assertIsNone(judge_forcing(signs, reader, sample, (trees, surroundings)))
            else:
                self.bad((trees, surroundings), sample, reader, signs)


if __name__ == "__main__":
    unittest.main()
