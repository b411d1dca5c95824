"""What the document says of several modules at once: the same told in many ways."""

import random
import unittest

import chance
import picks
import turns
from test_readers import some_reader
from test_samples import some_tree
from pergola.alike import part, part_readers
from pergola.copies import growth
from pergola.counts import count_with, place_of, tree_at
from pergola.down import down_rules, marks_by_rules
from pergola.errors import Missing, TooLarge
from pergola.fewways import few_paper, more_than
from pergola.fits import fit, judge_fit, least_into
from pergola.forcing import forcing_of, judge_forcing
from pergola.learners import Learner
from pergola.onebehind import one_of
from pergola.order import compare_trees, trees_of
from pergola.pickers import count_ways, known_reader, taken_reader
from pergola.plays import least_filling
from pergola.readers import least_of, least_reader, read_tree
from pergola.samples import fits
from pergola.sameways import parted_ways
from pergola.sayings import holds
from pergola.sortings import first_sorting, least_fit, reader_of
from pergola.spread import bound_paper, spread
from pergola.stands import behind, stands_of, turned_reader
from pergola.store import Store
from pergola.table import has, marks_of, table_of
from pergola.terms import size_of
from pergola.treestore import Grove
from pergola.turners import look_of, size_turned, turned


def books(seed, many, most_marks=3, most_rules=7):
    """So many books by chance that have tables."""
    chooser = random.Random(seed)
    found = []
    while len(found) < many:
        book = chance.some_book(chooser, most_marks, most_rules)
        try:
            table_of(book)
        except TooLarge:
            continue
        found.append(book)
    return found


def same_turner(signs):
    """The turner that turns each tree into itself."""
    moves = {0: 0, 1: (0,), 2: ((0,),)}
    sides = {0: lambda sign: (sign,), 1: lambda sign: ((sign, (0, 0)),), 2: lambda sign: (((sign, (0, 0), (0, 1)),),)}
    reader = (((),), tuple(moves[arity] for _, arity in signs))
    return (signs, signs, reader, (tuple(sides[arity](sign) for sign, arity in signs),))


def picker_of(signs, reader, label):
    """The picker that takes the trees of which a reader with at most 6 states tells a label, in one way."""
    labels, moves = reader

    def entry(value, arity):
        return tuple(entry(part, arity - 1) for part in value) if arity else (value,)

    entries = tuple(entry(value, arity) for value, (_, arity) in zip(moves, signs))
    return len(labels), entries, tuple(state for state, other in enumerate(labels) if other == label)


def learned(signs, reader):
    """A learner that is done, answered truly for a reader."""
    learner = Learner(signs)
    while not learner.is_done():
        word, thing = learner.question()
        tree = thing if word == "label" else part_readers(signs, thing, reader)
        if word == "label":
            learner.tell(read_tree(signs, reader, tree))
        elif tree is None:
            learner.agree()
        else:
            learner.differ(tree, read_tree(signs, reader, tree))
    return learner


class MarkTest(unittest.TestCase):
    def test_one_mark_in_many_ways(self):
        for book in books(151, 25):
            signs, marks, _ = book
            mark = marks[0][0]
            rules = down_rules(book)
            reader = least_reader(book, (mark,))
            store = Store(signs, marks)
            store.change([], list(book[2]))
            kept = fit(same_turner(signs), book, mark, book, mark)
            self.assertEqual(kept[0], "fits")
            self.assertIsNone(judge_fit(same_turner(signs), book, mark, book, mark, kept[1]))
            for size in range(1, 6):
                trees = trees_of(signs, size)[:12]
                for tree in trees:
                    yes = has(book, mark, tree)
                    self.assertEqual(mark in marks_of(book, tree), yes)
                    self.assertEqual(mark in marks_by_rules(signs, marks, rules, tree), yes)
                    self.assertEqual(read_tree(signs, reader, tree), (mark,) if yes else ())
                    self.assertEqual(holds(book, ("at", mark, "u"), {"u": tree}), yes)
                    self.assertEqual(Grove(book, tree).marks_at(()), store.row(tree))
                    self.assertEqual(mark in read_tree(signs, look_of(book), tree), yes)
                    self.assertEqual(count_ways(signs, picker_of(signs, reader, (mark,)), tree) if len(reader[0]) <= 6 else yes, yes)
                    if yes:
                        self.assertEqual(tree_at(book, mark, size, place_of(book, mark, tree)), tree)
                if len(trees_of(signs, size)) <= 12:
                    self.assertEqual(count_with(book, mark, size), sum(has(book, mark, tree) for tree in trees))

    def test_least_trees(self):
        """The least tree with a mark is the first filling, the least tree with a way, and the first that parts."""
        for book in books(152, 30):
            signs, marks, _ = book
            mark = marks[0][0]
            found = least_filling(book, ("at", mark, "u"), ["u"])
            tree = None if found is None else found[0]
            reader = least_reader(book, (mark,))
            none = (signs, marks, ())
            self.assertEqual(part(book, none, [(mark, mark)]), tree)
            self.assertEqual(part_readers(signs, reader, (((),), same_turner(signs)[2][1])), tree)
            word, thing = fit(same_turner(signs), book, mark, none, mark)
            self.assertEqual(thing if word == "fails" else None, tree)
            if len(reader[0]) <= 6:
                picker = picker_of(signs, reader, (mark,))
                self.assertEqual(more_than(signs, picker, 0), tree)
                self.assertEqual(parted_ways(signs, picker, (1, picker_of(signs, (((),), same_turner(signs)[2][1]), ())[1], ())), tree)
                self.assertEqual(least_of(signs, taken_reader(signs, picker))[1], reader[1])
                self.assertEqual(spread(signs, picker), ("none", 0 if tree is None else 1))


class LearnTest(unittest.TestCase):
    def test_marks_of_books(self):
        """A reader that is learned is the least reader of a book's marks, and its sample forces it."""
        tried = 0
        for book in books(153, 60):
            signs, marks, _ = book
            words = tuple(mark for mark, _ in marks[:2])
            reader = least_reader(book, words)
            if len(reader[0]) > 8:
                continue
            tried += 1
            learner = learned(signs, reader)
            self.assertEqual(learner.reader(), reader)
            sample = learner.sample()
            for tree, label in sample:
                self.assertEqual(tuple(mark for mark in words if has(book, mark, tree)), label)
            self.assertIsNone(judge_forcing(signs, reader, sample, learner.paper()))
            self.assertIsNone(judge_forcing(signs, look_of_marks(book, words), sample, learner.paper()))
            forced, paper = forcing_of(signs, reader)
            self.assertTrue(fits(signs, learner.reader(), forced))
            self.assertEqual(len(paper[0]), learner.states())
            if len(reader[0]) <= 3:
                sorting = first_sorting(signs, sample, len(reader[0]))
                self.assertIsNone(part_readers(signs, reader_of(signs, sample, sorting), reader))
                try:
                    self.assertIsNone(part_readers(signs, least_fit(signs, forced, 5), reader))
                except TooLarge:
                    pass
        self.assertGreater(tried, 40)


def look_of_marks(book, words):
    """The reader whose states are all rows of a book's table, and whose labels are some of the marks."""
    rows, moves, _ = table_of(book)
    return tuple(tuple(mark for mark in words if mark in row) for row in rows), moves


class TurnerTest(unittest.TestCase):
    def test_readers_behind_and_marks(self):
        """A mark is kept exactly if the reader behind the turner tells it of all trees with the first mark."""
        chooser = random.Random(154)
        seen = {"fits": 0, "fails": 0}
        while min(seen.values()) < 25:
            first, second = [chance.some_book(chooser, 2, 6) for _ in range(2)]
            turner = turns.some_turner(chooser, first[0], second[0], 1, 2, 3, 0.03)
            mark, other = first[1][0][0], second[1][0][0]
            try:
                word, thing = fit(turner, first, mark, second, other)
                told = behind(turner, least_reader(second, (other,)), ("none",))
                yes = turned_reader(turner)
                one = least_reader(first, (mark,))
                stands = stands_of(turner, look_of(second))
            except TooLarge:
                continue
            seen[word] += 1
            signs = first[0]
            for size in range(1, 6):
                for tree in trees_of(signs, size)[:10]:
                    fails = read_tree(signs, one, tree) == (mark,) and read_tree(signs, told, tree) != (other,)
                    self.assertEqual(read_tree(signs, yes, tree) == ("yes",), size_turned(turner, tree) > 0)
                    if fails:
                        self.assertEqual(word, "fails")
                        self.assertGreaterEqual(compare_trees(signs, tree, thing), 0)
            if word == "fails":
                self.assertEqual(read_tree(signs, one, thing), (mark,))
                self.assertNotEqual(read_tree(signs, told, thing), (other,))
            else:
                looks = {triple[1:] for triple in thing}
                self.assertEqual(looks, {stand for stand, _ in stands})

    def test_two_turners(self):
        """The reader behind the one turner is the one behind both, and copies go on as those of both."""
        chooser = random.Random(155)
        tried = 0
        while tried < 40:
            ins, between, outs = [chooser.choice(turns.SHAPES) for _ in range(3)]
            first = turns.some_turner(chooser, ins, between, 1, 2, 3, 0.05)
            second = turns.some_turner(chooser, between, outs, 1, 2, 3, 0.05)
            reader = some_reader(chooser, outs, 2, 2)
            try:
                one = one_of(first, second)
                found = behind(one, reader, ("none",))
                both = behind(first, behind(second, reader, ("none",)), ("none",))
            except TooLarge:
                continue
            tried += 1
            self.assertEqual(found, both)
            for size in range(1, 5):
                for tree in trees_of(ins, size)[:6]:
                    became = turned(first, tree)
                    self.assertEqual(turned(one, tree), None if became is None else turned(second, became))
            try:
                kinds = [growth(turner) for turner in (first, second, one)]
            except TooLarge:
                continue
            if kinds[0][0] == kinds[1][0] == "bounded":
                # Each part of a side of the first one may be copied by the second one.
                self.assertNotEqual(kinds[2][0], "beyond")

    def test_least_trees_into(self):
        """The least tree that is turned into a tree is the least one that does not fail to be it."""
        chooser = random.Random(156)
        found = 0
        while found < 25:
            ins = chooser.choice(turns.SHAPES)
            turner = turns.some_turner(chooser, ins, ins, 1, 2, 3, 0.05)
            goal = some_tree(chooser, ins, 4)
            try:
                least = least_into(turner, goal)
                back = least_into(same_turner(ins), goal)
            except TooLarge:
                continue
            self.assertEqual(back, goal)
            if least is not None:
                found += 1
                self.assertEqual(turned(turner, least), goal)
                self.assertEqual(size_turned(turner, least), size_of(goal))


class PickerTest(unittest.TestCase):
    def test_numbers_of_ways(self):
        """What readers, papers and bounds tell of the numbers of ways."""
        chooser = random.Random(157)
        seen = set()
        for _ in range(120):
            signs = chooser.choice(turns.SHAPES)
            picker = picks.some_picker(chooser, signs, chooser.randint(1, 3), chooser.choice([0.15, 0.3]))
            try:
                word, number = spread(signs, picker)
                known = known_reader(signs, picker)
                taken = taken_reader(signs, picker)
            except TooLarge:
                continue
            seen.add(word)
            labels = {label for label in known[0]}
            if word == "none":
                self.assertEqual(number > 0, more_than(signs, picker, 0) is not None)
                self.assertEqual(number > 1, ("more",) in labels)
                bound = bound_paper(signs, picker)
                self.assertEqual(max(picks.good_told(picker, counts) for counts in bound), number)
                if number <= 9:
                    try:
                        self.assertTrue(few_paper(signs, picker, number))
                        if number:
                            with self.assertRaises(Missing):
                                few_paper(signs, picker, number - 1)
                    except TooLarge:
                        pass
            else:
                self.assertIn(("more",), labels)
                tree = more_than(signs, picker, 1)
                self.assertEqual(read_tree(signs, known, tree), ("more",))
            self.assertEqual(("yes",) in taken[0], labels != {("none",)})
        self.assertEqual(seen, {"none", "power", "beyond"})

    def test_readers_as_pickers(self):
        """Two readers, as pickers, are parted by the same least tree."""
        chooser = random.Random(158)
        for _ in range(60):
            signs = chooser.choice(turns.SHAPES)
            first, second = [some_reader(chooser, signs, chooser.randint(1, 4), 2) for _ in range(2)]
            tree = parted_ways(signs, picker_of(signs, first, ("a",)), picker_of(signs, second, ("a",)))
            labels = [tuple(("a",) if label == ("a",) else () for label in reader[0]) for reader in (first, second)]
            self.assertEqual(tree, part_readers(signs, (labels[0], first[1]), (labels[1], second[1])))


if __name__ == "__main__":
    unittest.main()
