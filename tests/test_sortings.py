import itertools
import random
import time
import unittest
from unittest import mock

from test_readers import some_reader
from test_samples import some_tree
from pergola.errors import Missing, NotAllowed, TooLarge
from pergola.order import trees_of
from pergola.readers import check_reader, read_tree
from pergola.samples import fits, parts_of
from pergola.sortings import MAX_TRIES, first_sorting, least_fit, possible_labels, reader_of

SIGNS = (("z", 0), ("s", 1))
PAIRS = (("z", 0), ("pair", 2))
ALL = (("z", 0), ("s", 1), ("pair", 2))
SHAPES = [SIGNS, PAIRS, ALL, (("z", 0), ("s", 1), ("t", 1)), (("pair", 2), ("o", 0), ("z", 0))]
Z = ("z",)
ONE = ("s", Z)
SAMPLE = ((Z, ()), (ONE, ("odd",)), (("s", ONE), ()))
FOUR = (("z", 0), ("s", 1), ("t", 1), ("w", 1))


def row(letters):
    """The tree of a row of signs of the arity 1 over a last one of the arity 0."""
    tree = (letters[-1],)
    for letter in letters[-2::-1]:
        tree = (letter, tree)
    return tree


# The first sorting of this sample with at most 6 states is found at the try 20000; with another last label it is the next one.
LONG = [("z", ()), ("ssstz", ("a",)), ("tz", ("a",)), ("sstttttsz", ()), ("ssssssz", ()), ("tssz", ()), ("ssz", ("a",))]
LONG += [("ssstsstz", ("a",)), ("sz", ("a",)), ("tstz", ("a",)), ("tssssssz", ("a",)), ("stsssz", ()), ("wsstttttsz", ()), ("wswsstttttsz", ())]
LONG = tuple((row(letters), label) for letters, label in LONG)
LAST = row("wtwswsstttttsz")


def numbered_parts(signs, sample):
    """The parts in order, each with its label or None."""
    labels = dict(sample)
    return [(part, labels.get(part)) for part in parts_of(signs, sample)]


def is_sorting(parts, numbers):
    by_code, by_number = {}, {}
    where = {part: at for at, (part, _) in enumerate(parts)}
    for at, (part, label) in enumerate(parts):
        code = (part[0], *[numbers[where[inner]] for inner in part[1:]])
        if by_code.setdefault(code, numbers[at]) != numbers[at]:
            return False
        if label is not None and by_number.setdefault(numbers[at], label) != label:
            return False
        if numbers[at] > max(numbers[:at], default=-1) + 1:
            return False
    return True


def first_told(signs, sample, most):
    """The first sorting, by going through all tuples in order."""
    parts = numbered_parts(signs, sample)
    for numbers in itertools.product(range(most), repeat=len(parts)):
        if is_sorting(parts, numbers):
            return numbers
    return None


def search_told(signs, sample, most, limit=10 ** 9):
    """The first sorting and the number of tries of the search of [10.4], part by part; it ends behind so many tries."""
    parts = numbered_parts(signs, sample)
    where = {part: at for at, (part, _) in enumerate(parts)}
    inner = [[where[below] for below in part[1:]] for part, _ in parts]
    tries = 0
    numbers = []
    choices = []
    entries = {}
    at = 0
    while at < len(parts):
        code = (parts[at][0][0], *[numbers[place] for place in inner[at]])
        if code in entries:
            number = entries[code]
        else:
            choices.append((at, code))
            number = entries[code] = 0
            tries += 1
        while True:
            del numbers[at:]
            numbers.append(number)
            label = parts[at][1]
            bad = label is not None and any(
                other == number and others not in (None, label) for other, (_, others) in zip(numbers, parts)
            )
            if not bad:
                at += 1
                break
            while choices:
                at, code = choices[-1]
                number = entries[code] + 1
                if number < most and number <= max(numbers[:at], default=-1) + 1:
                    break
                del entries[code]
                choices.pop()
            else:
                return None, tries
            entries[code] = number
            tries += 1
            if tries > limit:
                return None, tries
    return tuple(numbers), tries


def some_sample(chooser, signs, many, size, states, noise=0.0):
    reader = some_reader(chooser, signs, states, 2)
    trees = list(dict.fromkeys(some_tree(chooser, signs, chooser.randint(1, size)) for _ in range(many)))
    return tuple((tree, ("noise",) if chooser.random() < noise else read_tree(signs, reader, tree)) for tree in trees)


class SortingTest(unittest.TestCase):
    def test_examples(self):
        self.assertIsNone(first_sorting(SIGNS, SAMPLE, 1))
        self.assertEqual(first_sorting(SIGNS, SAMPLE, 2), (0, 1, 0))
        self.assertEqual(least_fit(SIGNS, SAMPLE, 5), (((), ("odd",)), (0, (1, 0))))
        found = [possible_labels(SIGNS, ((), ("odd",)), SAMPLE, ("s", ("s", ONE)), most) for most in [2, 3]]
        self.assertEqual(found, [(("odd",),), ((), ("odd",))])
        self.assertEqual(MAX_TRIES, 20000)

    def test_numbers_of_states(self):
        for most in [0, -1, 25, 26, 10 ** 20]:
            for call in [
                lambda: first_sorting(SIGNS, SAMPLE, most),
                lambda: least_fit(SIGNS, SAMPLE, most),
                lambda: possible_labels(SIGNS, ((),), SAMPLE, Z, most),
            ]:
                with self.assertRaises(NotAllowed):
                    call()
        self.assertEqual(first_sorting(SIGNS, SAMPLE, 24), (0, 1, 0))
        self.assertEqual(first_sorting(SIGNS, SAMPLE[:1], 1), (0,))
        # The number is asked for first.
        with self.assertRaises(NotAllowed):
            first_sorting(FOUR, (*LONG, (LAST, ("a",))), 25)

    def test_empty_sample(self):
        for most in [1, 2, 24]:
            self.assertEqual(first_sorting(ALL, (), most), ())
            self.assertEqual(least_fit(ALL, (), most), (((),), (0, (0,), ((0,),))))
        self.assertEqual(reader_of(ALL, (), ()), (((),), (0, (0,), ((0,),))))
        self.assertEqual(possible_labels(ALL, (("a",), ()), (), Z, 1), (("a",), ()))

    def test_all_tuples(self):
        """The sorting is the first one of all tuples."""
        chooser = random.Random(130)
        seen = {True: 0, False: 0}
        while min(seen.values()) < 40:
            signs = chooser.choice(SHAPES)
            sample = some_sample(chooser, signs, chooser.randint(1, 4), 5, chooser.randint(1, 4), 0.15)
            if len(parts_of(signs, sample)) > 7:
                continue
            for most in [1, 2, 3]:
                expected = first_told(signs, sample, most)
                seen[expected is None] += 1
                self.assertEqual(first_sorting(signs, sample, most), expected)

    def test_tries(self):
        """A search ends as it is told, with the very number of tries that is allowed, and not with one less."""
        chooser = random.Random(131)
        seen = {True: 0, False: 0}
        kinds = set()
        while min(seen.values()) < 60:
            signs = chooser.choice(SHAPES)
            sample = some_sample(chooser, signs, chooser.randint(2, 9), 8, chooser.randint(1, 4), chooser.choice([0, 0.1]))
            most = chooser.randint(1, 4)
            expected, tries = search_told(signs, sample, most)
            if tries > 3000:
                continue
            seen[expected is None] += 1
            kinds.add(min(tries, 20))
            with mock.patch("pergola.sortings.MAX_TRIES", tries):
                self.assertEqual(first_sorting(signs, sample, most), expected)
            with mock.patch("pergola.sortings.MAX_TRIES", tries - 1):
                with self.assertRaises(TooLarge):
                    first_sorting(signs, sample, most)
        self.assertGreater(len(kinds), 10)

    def test_many_states(self):
        """Searches with many tries, and with trees that are told again and again, as they are told."""
        chooser = random.Random(132)
        found = 0
        for _ in range(25):
            signs = chooser.choice([ALL, (("pair", 2), ("o", 0), ("z", 0))])
            sample = some_sample(chooser, signs, chooser.randint(10, 60), 15, chooser.randint(2, 5))
            most = chooser.randint(2, 6)
            expected, tries = search_told(signs, sample, most, 700)
            with mock.patch("pergola.sortings.MAX_TRIES", 700):
                if tries <= 700:
                    found += 1
                    self.assertEqual(first_sorting(signs, sample, most), expected)
                else:
                    with self.assertRaises(TooLarge):
                        first_sorting(signs, sample, most)
        self.assertGreater(found, 5)

    def test_the_try_20000(self):
        sample = (*LONG, (LAST, ()))
        sorting = first_sorting(FOUR, sample, 6)
        self.assertEqual(search_told(FOUR, sample, 6), (sorting, 20000))
        with self.assertRaises(TooLarge):
            first_sorting(FOUR, (*LONG, (LAST, ("a",))), 6)
        with mock.patch("pergola.sortings.MAX_TRIES", 20001):
            self.assertIsNotNone(first_sorting(FOUR, (*LONG, (LAST, ("a",))), 6))

    def test_forced_parts_are_no_tries(self):
        """With one state each sign is tried once; a long row of signs has no more tries."""
        sample = ((row("s" * 90 + "z"), ()),)
        with mock.patch("pergola.sortings.MAX_TRIES", 2):
            self.assertEqual(first_sorting(SIGNS, sample, 5), (0,) * 91)
        with mock.patch("pergola.sortings.MAX_TRIES", 1):
            with self.assertRaises(TooLarge):
                first_sorting(SIGNS, sample, 1)
        # A try that breaks the labels at once counts: the number 0 is tried for the second part as well.
        with mock.patch("pergola.sortings.MAX_TRIES", 4):
            self.assertEqual(first_sorting(SIGNS, SAMPLE, 2), (0, 1, 0))
        with mock.patch("pergola.sortings.MAX_TRIES", 3):
            with self.assertRaises(TooLarge):
                first_sorting(SIGNS, SAMPLE, 2)

    def test_nothing_is_tried_at_the_end(self):
        """That there is none may turn out with the last try."""
        with mock.patch("pergola.sortings.MAX_TRIES", 2):
            self.assertIsNone(first_sorting(SIGNS, SAMPLE, 1))
        with mock.patch("pergola.sortings.MAX_TRIES", 1):
            with self.assertRaises(TooLarge):
                first_sorting(SIGNS, SAMPLE, 1)

    def test_great_samples(self):
        chooser = random.Random(133)
        signs = (("z", 0), ("s", 1), ("pair", 2))
        start = time.perf_counter()
        for size, states, noise in [(15, 3, 0), (40, 5, 0), (40, 2, 0), (40, 1, 0.001)]:
            sample = some_sample(chooser, signs, 1200, size, states, noise)
            for most in [2, 3, 4, 24]:
                try:
                    sorting = first_sorting(signs, sample, most)
                except TooLarge:
                    continue
                if sorting is not None:
                    self.assertTrue(fits(signs, reader_of(signs, sample, sorting), sample))
        self.assertLess(time.perf_counter() - start, 15)

    def test_nothing_is_changed(self):
        before = repr(SAMPLE)
        for _ in range(2):
            self.assertEqual(first_sorting(SIGNS, SAMPLE, 3), (0, 1, 0))
            self.assertEqual(first_sorting(SIGNS, SAMPLE[:2], 3), (0, 1))
        self.assertEqual(repr(SAMPLE), before)


class ReaderTest(unittest.TestCase):
    def test_labels_and_entries(self):
        """Where nothing is told, labels are empty, and entries are 0."""
        sample = ((("pair", Z, ONE), ("a",)),)
        self.assertEqual(parts_of(ALL, sample), [Z, ONE, ("pair", Z, ONE)])
        self.assertEqual(reader_of(ALL, sample, (0, 1, 2)), (((), (), ("a",)), (0, (1, 0, 0), ((0, 2, 0), (0, 0, 0), (0, 0, 0)))))
        self.assertEqual(reader_of(ALL, sample, (0, 0, 0)), ((("a",),), (0, (0,), ((0,),))))
        self.assertEqual(reader_of(ALL, sample, (0, 1, 0)), ((("a",), ()), (0, (1, 0), ((0, 0), (0, 0)))))
        self.assertEqual(reader_of(SIGNS, SAMPLE, (0, 1, 0)), (((), ("odd",)), (0, (1, 0))))

    def test_chance(self):
        chooser = random.Random(134)
        for _ in range(80):
            signs = chooser.choice(SHAPES)
            sample = some_sample(chooser, signs, chooser.randint(1, 6), 7, 3)
            sorting = first_sorting(signs, sample, 24)
            reader = reader_of(signs, sample, sorting)
            self.assertIsNone(check_reader(signs, reader))
            self.assertEqual(len(reader[0]), max(sorting) + 1)
            self.assertTrue(fits(signs, reader, sample))
            for part, number in zip(parts_of(signs, sample), sorting):
                self.assertEqual(read_tree(signs, reader, part), reader[0][number])

    def test_many_states(self):
        """Each part may have a number of its own."""
        sample = ((row("s" * 23 + "z"), ("a",)),)
        reader = reader_of(SIGNS, sample, tuple(range(24)))
        self.assertIsNone(check_reader(SIGNS, reader))
        self.assertEqual(reader, (((),) * 23 + (("a",),), (0, (*range(1, 24), 0))))


class LeastTest(unittest.TestCase):
    def test_least(self):
        """There is a reader with so many states, and none with less."""
        chooser = random.Random(135)
        for _ in range(60):
            signs = chooser.choice(SHAPES)
            sample = some_sample(chooser, signs, chooser.randint(1, 7), 7, 3, 0.1)
            try:
                reader = least_fit(signs, sample, 5)
            except Missing:
                self.assertIsNone(first_sorting(signs, sample, 5))
                continue
            many = len(reader[0])
            self.assertTrue(fits(signs, reader, sample))
            self.assertEqual(reader, reader_of(signs, sample, first_sorting(signs, sample, many)))
            if many > 1:
                self.assertIsNone(first_sorting(signs, sample, many - 1))
                with self.assertRaises(Missing):
                    least_fit(signs, sample, many - 1)

    def test_errors_as_they_come(self):
        """Searches with less states come first, and each of them may be too long."""
        sample = some_sample(random.Random(137), ALL, 60, 15, 6)
        self.assertIsNone(first_sorting(ALL, sample, 2))
        with self.assertRaises(Missing):
            least_fit(ALL, sample, 2)
        for most in [6, 24]:
            with self.assertRaises(TooLarge):
                least_fit(ALL, sample, most)
        tries = [search_told(SIGNS, SAMPLE, most)[1] for most in [1, 2]]
        self.assertEqual(tries, [2, 4])
        for limit, error in [(1, TooLarge), (3, TooLarge), (4, None)]:
            with mock.patch("pergola.sortings.MAX_TRIES", limit):
                if error is None:
                    self.assertEqual(least_fit(SIGNS, SAMPLE, 2), (((), ("odd",)), (0, (1, 0))))
                else:
                    with self.assertRaises(error):
                        least_fit(SIGNS, SAMPLE, 2)
        with mock.patch("pergola.sortings.MAX_TRIES", 2):
            with self.assertRaises(Missing):
                least_fit(SIGNS, SAMPLE, 1)


class LabelsTest(unittest.TestCase):
    def test_chance(self):
        """A label is possible exactly if some sorting of the greater sample has it."""
        chooser = random.Random(136)
        several = 0
        for _ in range(80):
            signs = chooser.choice(SHAPES)
            sample = some_sample(chooser, signs, chooser.randint(1, 6), 6, 2)
            tree = some_tree(chooser, signs, chooser.randint(1, 7))
            labels = [(), ("a",), ("b", "a"), ("new",), ("more", "new")]
            chooser.shuffle(labels)
            labels = tuple(labels[: chooser.randint(0, 5)])
            most = chooser.randint(1, 3)
            if first_sorting(signs, sample, most) is None:
                with self.assertRaises(Missing):
                    possible_labels(signs, labels, sample, tree, most)
                continue
            found = possible_labels(signs, labels, sample, tree, most)
            known = dict(sample)
            if tree in known:
                self.assertEqual(found, tuple(label for label in labels if label == known[tree]))
            else:
                expected = [label for label in labels if first_sorting(signs, (*sample, (tree, label)), most) is not None]
                self.assertEqual(found, tuple(expected))
                several += len(found) > 1
        self.assertGreater(several, 10)

    def test_a_tree_of_the_sample(self):
        labels = (("odd",), (), ("new",))
        for tree, label in SAMPLE:
            self.assertEqual(possible_labels(SIGNS, labels, SAMPLE, tree, 2), (label,))
            self.assertEqual(possible_labels(SIGNS, (("new",),), SAMPLE, tree, 2), ())
            self.assertEqual(possible_labels(SIGNS, (), SAMPLE, tree, 2), ())
        with self.assertRaises(Missing):
            possible_labels(SIGNS, labels, SAMPLE, Z, 1)

    def test_errors_in_order(self):
        deep = ("s", ("s", ONE))
        # The search of the sample takes 4 tries, that of a new label 6, and that of an old one 4.
        self.assertEqual(search_told(SIGNS, SAMPLE, 2), ((0, 1, 0), 4))
        tries = {label: search_told(SIGNS, (*SAMPLE, (deep, label)), 3) for label in [(), ("odd",), ("new",)]}
        limit = search_told(SIGNS, SAMPLE, 3)[1]
        self.assertLess(limit, tries[()][1])
        with mock.patch("pergola.sortings.MAX_TRIES", limit - 1):
            for labels, tree in [((("odd",),), deep), ((), Z)]:
                with self.assertRaises(TooLarge):
                    possible_labels(SIGNS, labels, SAMPLE, tree, 3)
        with mock.patch("pergola.sortings.MAX_TRIES", 2):
            with self.assertRaises(Missing):
                possible_labels(SIGNS, ((),), SAMPLE, Z, 1)
        with mock.patch("pergola.sortings.MAX_TRIES", limit):
            self.assertEqual(possible_labels(SIGNS, (("odd",),), SAMPLE, deep, 3), (("odd",),))
            self.assertEqual(possible_labels(SIGNS, (), SAMPLE, deep, 3), ())
            for labels in [((),), (("odd",), ()), ((), ("odd",)), (("new",),)]:
                with self.assertRaises(TooLarge):
                    possible_labels(SIGNS, labels, SAMPLE, deep, 3)
            # There is no search for labels of a tree that the sample has.
            self.assertEqual(possible_labels(SIGNS, ((), ("new",)), SAMPLE, Z, 3), ((),))

    def test_all_trees_of_a_size(self):
        """With enough trees the label of a further one is told by the least reader that fits."""
        reader = (((), ("odd",)), (0, (1, 0), ((0, 1), (1, 0))))
        trees = [tree for size in range(1, 5) for tree in trees_of(ALL, size)]
        sample = tuple((tree, read_tree(ALL, reader, tree)) for tree in trees)
        for tree in trees_of(ALL, 6)[::7]:
            self.assertEqual(possible_labels(ALL, ((), ("odd",), ("new",)), sample, tree, 2), (read_tree(ALL, reader, tree),))


if __name__ == "__main__":
    unittest.main()
