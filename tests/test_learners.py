import random
import time
import unittest

from test_forcing import circle
from test_readers import some_reader
from test_samples import some_tree
from pergola.alike import part_readers
from pergola.errors import Missing, NotAllowed, TooLarge
from pergola.forcing import judge_forcing
from pergola.learners import MAX_LEARNED, Learner
from pergola.readers import check_reader, least_of, read_tree
from pergola.samples import check_sample, fits
from pergola.sortings import first_sorting
from pergola.terms import depth_of, size_of

SIGNS = (("z", 0), ("s", 1))
PAIRS = (("z", 0), ("pair", 2))
ALL = (("z", 0), ("s", 1), ("pair", 2))
BIG = (("z", 0), ("pair", 2), ("node", 2), ("join", 2))
SHAPES = [SIGNS, PAIRS, ALL, (("z", 0), ("o", 0), ("pair", 2)), (("s", 1), ("x", 0), ("t", 1)), BIG]
Z = ("z",)
READER = (((), ("odd",)), (0, (1, 0)))


class Watched:
    """A learner whose promises are looked at with each question."""

    def __init__(self, test, signs):
        self.test = test
        self.signs = signs
        self.learner = Learner(signs)
        self.labels_asked = 0
        self.last_states = 0
        self.told = []
        self.greatest = 0
        self.look()

    def look(self):
        """Look at the question, and that it stays the same."""
        word, thing = question = self.learner.question()
        self.test.assertEqual(self.learner.question(), question)
        self.test.assertFalse(self.learner.is_done())
        self.test.assertEqual(self.learner.sample(), tuple(self.told))
        states = self.learner.states()
        if word == "label":
            self.labels_asked += 1
            self.test.assertNotIn(thing, [tree for tree, _ in self.told])
        else:
            self.test.assertEqual(word, "right")
            self.test.assertIsNone(check_reader(self.signs, thing))
            self.test.assertEqual(least_of(self.signs, thing), thing)
            self.test.assertTrue(fits(self.signs, thing, self.learner.sample()))
            self.test.assertEqual(len(thing[0]), states)
            self.test.assertGreater(states, self.last_states)
            self.last_states = states
        branches = sum(states ** arity for _, arity in self.signs)
        halvings = (max(self.greatest, 1) - 1).bit_length()
        # The question itself is not yet answered, and its tree is none of the sample.
        bound = (states + 1) * branches + states * halvings
        self.test.assertLessEqual(self.labels_asked, bound)

    def tell(self, label):
        tree = self.learner.question()[1]
        self.test.assertIsNone(self.learner.tell(label))
        self.note(tree, label)

    def differ(self, tree, label):
        self.test.assertIsNone(self.learner.differ(tree, label))
        self.note(tree, label)

    def note(self, tree, label):
        self.told.append((tree, label))
        self.greatest = max(self.greatest, size_of(tree))
        self.look()

    def agree(self):
        reader = self.learner.question()[1]
        self.test.assertIsNone(self.learner.agree())
        self.test.assertTrue(self.learner.is_done())
        self.test.assertEqual(self.learner.reader(), reader)
        self.test.assertEqual(self.learner.states(), len(reader[0]))
        self.test.assertEqual(self.learner.sample(), tuple(self.told))
        self.test.assertIsNone(check_sample(self.signs, self.learner.sample()))
        trees, _ = self.learner.paper()
        self.test.assertEqual(len(trees), len(reader[0]))
        self.test.assertIsNone(judge_forcing(self.signs, reader, self.learner.sample(), self.learner.paper()))


def another(chooser, signs, asked, reader, kind):
    """A tree of which two readers tell other labels, None if there is none: the least one, or one by chance."""
    least = part_readers(signs, asked, reader)
    if least is None or kind == "least":
        return least
    for _ in range(200):
        size = chooser.randint(200, 380) if kind == "great" else chooser.randint(1, 60)
        tree = some_tree(chooser, signs, size)
        if depth_of(tree) <= 100 and read_tree(signs, asked, tree) != read_tree(signs, reader, tree):
            return tree
    return least


class LearnerTest(unittest.TestCase):
    def learn(self, signs, reader, kind="least", seed=1):
        """Learn a reader, answered truly; return the watched learner."""
        chooser = random.Random(seed)
        watched = Watched(self, signs)
        while not watched.learner.is_done():
            word, thing = watched.learner.question()
            if word == "label":
                watched.tell(read_tree(signs, reader, thing))
                continue
            tree = another(chooser, signs, thing, reader, kind)
            if tree is None:
                watched.agree()
            else:
                watched.differ(tree, read_tree(signs, reader, tree))
        return watched

    def test_examples(self):
        learner = self.learn(SIGNS, READER).learner
        self.assertEqual((learner.reader(), learner.states()), (READER, 2))
        self.assertEqual(MAX_LEARNED, 10)

    def test_first_question(self):
        for signs in SHAPES:
            learner = Learner(signs)
            word, tree = learner.question()
            self.assertEqual((word, size_of(tree)), ("label", 1))
            self.assertEqual((learner.states(), learner.sample(), learner.is_done()), (1, (), False))

    def test_truly(self):
        """Whoever answers truly is asked for at most as many readers as there are states, the last one the least reader."""
        chooser = random.Random(142)
        seen = set()
        for round_number in range(70):
            signs = chooser.choice(SHAPES)
            reader = some_reader(chooser, signs, chooser.randint(1, 7), chooser.randint(1, 3))
            least = least_of(signs, reader)
            kind = ["least", "great", "small"][round_number % 3]
            watched = self.learn(signs, reader, kind, round_number)
            self.assertEqual(watched.learner.reader(), least)
            self.assertEqual(watched.learner.states(), len(least[0]))
            seen.add(len(least[0]))
        self.assertGreater(len(seen), 5)

    def test_10_and_11_states(self):
        for many in [9, 10]:
            learner = self.learn(SIGNS, circle(many)).learner
            self.assertEqual(learner.reader(), least_of(SIGNS, circle(many)))
        chooser = random.Random(143)
        tried = 0
        while tried < 3:
            reader = some_reader(chooser, ALL, 10, 2)
            if len(least_of(ALL, reader)[0]) == 10:
                tried += 1
                self.assertEqual(self.learn(ALL, reader, "small", tried).learner.reader(), least_of(ALL, reader))

    def test_too_large(self):
        """An answer that needs 11 states changes nothing; it may be given again, or another one."""
        chooser = random.Random(144)
        met = 0
        while met < 6:
            signs = chooser.choice([SIGNS, ALL, PAIRS])
            reader = some_reader(chooser, signs, 12, 2) if chooser.random() < 0.7 else circle(11) if signs == SIGNS else None
            if reader is None or len(least_of(signs, reader)[0]) < 11:
                continue
            met += 1
            learner = Learner(signs)
            while True:
                word, thing = learner.question()
                before = (learner.question(), learner.sample(), learner.states())
                if word == "label":
                    arguments = (read_tree(signs, reader, thing),)
                else:
                    tree = part_readers(signs, thing, reader)
                    arguments = (tree, read_tree(signs, reader, tree))
                call = learner.tell if word == "label" else learner.differ
                try:
                    call(*arguments)
                except TooLarge:
                    break
            for _ in range(2):
                with self.assertRaises(TooLarge):
                    call(*arguments)
                self.assertEqual((learner.question(), learner.sample(), learner.states()), before)
            self.assertEqual(learner.states(), 10)
            self.assertFalse(learner.is_done())
            # No reader with 10 states fits with this answer.
            tree = thing if word == "label" else arguments[0]
            sample = (*learner.sample(), (tree, arguments[-1]))
            if signs == SIGNS:
                self.assertIsNone(first_sorting(signs, sample, 10))
            self.go_on_otherwise(learner, signs)

    def go_on_otherwise(self, learner, signs):
        """Behind an answer that was too large, others may be given until a reader is right."""
        for _ in range(4000):
            word, thing = learner.question()
            if word == "right":
                learner.agree()
                self.assertIsNone(judge_forcing(signs, learner.reader(), learner.sample(), learner.paper()))
                return
            for label in [(), ("a",), ("b", "a"), ("last",)]:
                try:
                    learner.tell(label)
                    break
                except TooLarge:
                    continue
            else:
                return

    def test_answers_that_nobodys_reader_tells(self):
        """Labels by chance: the promises hold until there are too many states."""
        chooser = random.Random(145)
        ends = set()
        for _ in range(25):
            signs = chooser.choice(SHAPES[:5])
            labels = [(), ("a",), ("b", "a")][: chooser.randint(2, 3)]
            watched = Watched(self, signs)
            rare = chooser.random() * 0.2
            for _ in range(400):
                word, thing = watched.learner.question()
                try:
                    if word == "label":
                        watched.tell(chooser.choice(labels) if chooser.random() < rare else labels[0])
                    elif chooser.random() < 0.3:
                        watched.agree()
                        ends.add("right")
                        break
                    else:
                        tree = some_tree(chooser, signs, chooser.randint(1, 30))
                        told = read_tree(signs, thing, tree)
                        if depth_of(tree) <= 100 and tree not in dict(watched.told):
                            watched.differ(tree, [label for label in [*labels, ("new",)] if label != told][0])
                except TooLarge:
                    ends.add("large")
                    break
        self.assertEqual(ends, {"right", "large"})

    def test_no_reader_is_asked_for_that_has_too_many_states(self):
        """If a reader with so few states fits, none with more is asked for."""
        chooser = random.Random(146)
        for _ in range(15):
            watched = Watched(self, SIGNS)
            for _ in range(60):
                word, thing = watched.learner.question()
                if word == "right":
                    many = len(thing[0])
                    if many > 1:
                        self.assertIsNone(first_sorting(SIGNS, watched.learner.sample(), many - 1))
                    told = dict(watched.told)
                    tree = next(tree for tree in rows() if tree not in told)
                    try:
                        watched.differ(tree, ("a",) if read_tree(SIGNS, thing, tree) == () else ())
                    except TooLarge:
                        break
                else:
                    try:
                        watched.tell(chooser.choice([(), (), ("a",)]))
                    except TooLarge:
                        break

    def test_two_learners(self):
        """Two learners do not touch each other."""
        one, other = Learner(ALL), Learner(ALL)
        one.tell(("a",))
        self.assertEqual(other.sample(), ())
        self.assertEqual(other.question(), Learner(ALL).question())
        while one.question()[0] == "label":
            one.tell(("a",))
        self.assertEqual(other.sample(), ())
        other.tell(("b",))
        one.agree()
        self.assertFalse(other.is_done())

    def test_time(self):
        """Readers with ten states over three signs of the arity 2: some thousand questions."""
        chooser = random.Random(147)
        reader = some_reader(chooser, BIG, 10, 2)
        while len(least_of(BIG, reader)[0]) < 10:
            reader = some_reader(chooser, BIG, 10, 2)
        start = time.perf_counter()
        learner = Learner(BIG)
        asked = 0
        while not learner.is_done():
            word, thing = learner.question()
            asked += 1
            if word == "label":
                learner.tell(read_tree(BIG, reader, thing))
            else:
                tree = another(chooser, BIG, thing, reader, "great")
                if tree is None:
                    learner.agree()
                else:
                    learner.differ(tree, read_tree(BIG, reader, tree))
        self.assertEqual(learner.reader(), least_of(BIG, reader))
        self.assertIsNone(judge_forcing(BIG, reader, learner.sample(), learner.paper()))
        self.assertGreater(asked, 500)
        self.assertLess(time.perf_counter() - start, 8)


def rows():
    tree = Z
    while True:
        yield tree
        tree = ("s", tree)


class ErrorTest(unittest.TestCase):
    def refused(self, error, call, *arguments):
        with self.assertRaises(error):
            call(*arguments)

    def test_label_question(self):
        learner = Learner(SIGNS)
        for _ in range(2):
            for call in [learner.agree, learner.reader, learner.paper]:
                self.refused(Missing, call)
            self.refused(Missing, learner.differ, Z, ())
            self.refused(Missing, learner.differ, "x", ("A",))
            for label in [("a", "a"), ("A",), ("if",), ("a",) * 7, ("",)]:
                self.refused(NotAllowed, learner.tell, label)
            self.assertEqual(learner.question(), ("label", Z))
            self.assertEqual(learner.sample(), ())

    def right_learner(self):
        learner = Learner(SIGNS)
        while learner.question()[0] == "label":
            learner.tell(())
        return learner

    def test_right_question(self):
        learner = self.right_learner()
        self.assertEqual(learner.question(), ("right", (((),), (0, (0,)))))
        sample = learner.sample()
        for _ in range(2):
            self.refused(Missing, learner.tell, ("a",))
            self.refused(Missing, learner.tell, ("A",))
            self.refused(Missing, learner.reader)
            self.refused(Missing, learner.paper)
            deep = Z
            for _ in range(100):
                deep = ("s", deep)
            for value in ["x", "z", (), ("s",), ("s", "x"), ("pair", Z, Z), deep, ("s", ("z", Z)), ("s", deep)]:
                self.refused(NotAllowed, learner.differ, value, ("a",))
            far = ("s", ("s", ("s", Z)))
            for label in [("a", "a"), ("A",), (), ("a",) * 7]:
                self.refused(NotAllowed, learner.differ, far, label)
            for tree, _ in sample:
                self.refused(NotAllowed, learner.differ, tree, ("a",))
            self.assertEqual(learner.question()[0], "right")
            self.assertEqual((learner.sample(), learner.states()), (sample, 1))
        # A tree of 100 signs, one in the other, is allowed.
        self.assertIsNone(learner.differ(deep[1], ("a",)))
        self.assertEqual(learner.sample()[-1], (deep[1], ("a",)))

    def test_sizes(self):
        """Trees of up to 400 signs may be answered with."""
        learner = Learner(PAIRS)
        while learner.question()[0] == "label":
            learner.tell(())
        tree = Z
        for _ in range(7):
            tree = ("pair", tree, tree)
        tree = ("pair", ("pair", tree, tree[1]), ("pair", Z, ("pair", Z, Z)))
        tree = ("pair", ("pair", tree, ("pair", ("pair", Z, Z), ("pair", Z, Z))), Z)
        self.assertEqual(size_of(tree), 399)
        self.refused(NotAllowed, learner.differ, ("pair", tree, Z), ("a",))
        self.assertIsNone(learner.differ(tree, ("a",)))
        self.assertEqual(learner.question()[0], "label")

    def test_done(self):
        learner = self.right_learner()
        learner.agree()
        for _ in range(2):
            for call in [learner.question, learner.agree]:
                self.refused(Missing, call)
            self.refused(Missing, learner.tell, ())
            self.refused(Missing, learner.differ, ("s", ("s", ("s", Z))), ("a",))
            self.refused(Missing, learner.differ, "x", ("A",))
            self.assertTrue(learner.is_done())
            self.assertEqual(learner.reader(), (((),), (0, (0,))))
            self.assertEqual(learner.states(), 1)

    def test_order_of_the_sample(self):
        learner = Learner(ALL)
        told = []
        while learner.question()[0] == "label":
            tree = learner.question()[1]
            told.append((tree, ("a",) if tree == Z else ()))
            learner.tell(told[-1][1])
            self.assertEqual(learner.sample(), tuple(told))


if __name__ == "__main__":
    unittest.main()
