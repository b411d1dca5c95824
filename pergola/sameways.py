"""Whether two pickers take each tree in as many ways, and papers that they do."""

from math import gcd, lcm

from pergola.errors import BadPaper, Missing, TooLarge
from pergola.least import Candidates, trees_made
from pergola.table import tuples_of
from pergola.terms import MAX_TREE
from pergola.vectors import Span
from pergola.ways import Ways, counts_over, good_ways


class Pair:
    """Two pickers over the same signs; a vector is the list of the counts by the first and by the second one."""

    def __init__(self, signs, first, second):
        self.signs = signs
        self.first_picker = first
        self.second_picker = second
        self.length = first[0] + second[0]

    def over(self, sign, parts):
        """Return the vector of the sign with this number over parts with these vectors."""
        many = self.first_picker[0]
        counts = counts_over(many, self.first_picker[1][sign], [part[:many] for part in parts])
        others = counts_over(self.length - many, self.second_picker[1][sign], [part[many:] for part in parts])
        return [*counts, *others]

    def is_alike(self, vector):
        """Return True if there are as many ways to good states by both pickers."""
        many = self.first_picker[0]
        return good_ways(self.first_picker, vector[:many]) == good_ways(self.second_picker, vector[many:])

    def all_over(self, vectors):
        """Return the list of the vectors of each sign over each row of some vectors, in order."""
        found = []
        for sign, (_, arity) in enumerate(self.signs):
            found.extend([self.over(sign, parts) for parts in tuples_of(vectors, arity)])
        return found

    def vector_of(self, tree):
        """Return the vector of a tree."""
        ways = Ways(self.signs, self.first_picker, tree)
        others = Ways(self.signs, self.second_picker, tree)
        return [*ways.counted[ways.root], *others.counted[others.root]]


class NewTrees:
    """The new trees of two pickers, in order, until one of them has other numbers of ways by either."""

    def __init__(self, signs, first, second):
        self.pair = Pair(signs, first, second)
        self.trees = Candidates(signs)
        self.vectors = []
        self.span = Span(self.pair.length)
        self.parted = False
        while self.trees.are_left() and not self.parted:
            size, sign, parts = self.trees.take()
            vector = self.pair.over(sign, [self.vectors[part] for part in parts])
            if self.span.adds(vector):
                self.trees.keep(size, sign, parts)
                self.vectors.append(vector)
                self.parted = not self.pair.is_alike(vector)

    def all_made(self):
        """Return the list of the new trees; raise TooLarge if the last one has a size above 400."""
        # The last one is the largest.
        if self.trees.sizes and self.trees.sizes[-1] > MAX_TREE:
            raise TooLarge("a tree has a size above 400")
        return trees_made(self.pair.signs, self.trees.makings)


def parted_ways(signs, first, second):
    """Return the least tree that has other numbers of ways by two pickers, and None if there is none."""
    new = NewTrees(signs, first, second)
    return new.all_made()[-1] if new.parted else None


def same_paper(signs, first, second):
    """Return the first paper that two pickers count alike."""
    new = NewTrees(signs, first, second)
    if new.parted:
        raise Missing("the pickers do not count alike")
    trees = tuple(new.all_made())
    return trees, tuple([new.span.ratios(vector) for vector in new.pair.all_over(new.vectors)])


def judge_same(signs, first, second, paper):
    """Raise BadPaper if a pair of trees and rows of ratios is not a right paper that two pickers count alike."""
    trees, rows = paper
    pair = Pair(signs, first, second)
    vectors = [pair.vector_of(tree) for tree in trees]
    if not all([pair.is_alike(vector) for vector in vectors]):
        raise BadPaper("a tree has other numbers of ways")
    wholes = pair.all_over(vectors)
    if len(rows) != len(wholes):
        raise BadPaper("there must be a row for each sign over each row of the trees")
    for row, whole in zip(rows, wholes):
        if len(row) != len(trees) or not all([is_ratio(above, below) for above, below in row]):
            raise BadPaper("there must be a ratio in lowest terms for each tree")
        if not is_sum(whole, row, vectors):
            raise BadPaper("a vector is not the sum that is told")


def is_ratio(above, below):
    """Return True if two integers are a ratio in lowest terms."""
    return below >= 1 and gcd(above, below) == 1


def is_sum(whole, row, vectors):
    """Return True if a vector is the sum of some vectors, each times its ratio."""
    common = 1
    for _, below in row:
        common = lcm(common, below)
    found = [0] * len(whole)
    for (above, below), vector in zip(row, vectors):
        times = above * (common // below)
        found = [number + times * more for number, more in zip(found, vector)]
    return found == [number * common for number in whole]
