"""Counted trees: those of a size that have a mark."""

from pergola.books import floor_of
from pergola.errors import Missing, NotAllowed
from pergola.order import place_of_sign
from pergola.readers import least_reader
from pergola.table import row_of
from pergola.terms import size_of

MAX_SIZED = 40


def count_with(book, mark, size):
    """Return the number of trees of a size that have a mark."""
    counted = counted_to(book, mark, size)
    return counted.worth(size, counted.good)


def tree_at(book, mark, size, index):
    """Return the tree with a number among those of a size that have a mark."""
    counted = counted_to(book, mark, size)
    if not 0 <= index < counted.worth(size, counted.good):
        raise Missing("there is no tree with this number")
    return counted.find(size, counted.good, index)[0]


def place_of(book, mark, tree):
    """Return the number of a tree among those of its size that have a mark."""
    counted = counted_to(book, mark, size_of(tree))
    if not counted.good[row_of(book[0], counted.moves, tree, {})]:
        raise NotAllowed("the tree does not have the mark")
    return counted.place(tree, counted.good)


def counted_to(book, mark, size):
    """Return the trees counted up to a size; the good rows are those with a mark."""
    floor_of(book, mark)
    if not 0 <= size <= MAX_SIZED:
        raise NotAllowed("the size must be from 0 to 40")
    return Counted(book, mark, size)


class Counted:
    """The trees of each size up to one, counted by their rows: those of the least reader of a mark.

    For each size there is a list of pairs of a row that trees of this size
    have, and their number. Rows have *weights*: lists with an integer for
    each row. The *worth* of some trees is the sum of the weights of their
    rows.
    """

    def __init__(self, book, mark, size):
        # What the rows tell of other marks does not matter.
        labels, moves = least_reader(book, (mark,))
        self.signs = book[0]
        self.moves = moves
        self.many = len(labels)
        self.good = [len(label) for label in labels]
        self.present = [[]]
        for lesser in range(1, size + 1):
            counts = self.count(lesser)
            self.present.append([(row, many) for row, many in enumerate(counts) if many])

    def count(self, size):
        """Return the list of the numbers of trees of a size for each row."""
        found = [0] * self.many
        pairs = self.count_pairs(size - 1) if 2 in [arity for _, arity in self.signs] else []
        for entry, (_, arity) in zip(self.moves, self.signs):
            if arity == 0 and size == 1:
                found[entry] += 1
            if arity == 1:
                for row, many in self.present[size - 1]:
                    found[entry[row]] += many
            if arity == 2:
                for line, told in zip(pairs, entry):
                    for many, row in zip(line, told):
                        found[row] += many
        return found

    def count_pairs(self, size):
        """Return the numbers of pairs of trees of this size together, for each row of both."""
        pairs = [[0] * self.many for _ in range(self.many)]
        for left in range(1, size):
            others = self.present[size - left]
            for row, many in self.present[left]:
                line = pairs[row]
                for other, more in others:
                    line[other] += many * more
        return pairs

    def worth(self, size, weights):
        """Return the worth of all trees of a size."""
        return sum([many * weights[row] for row, many in self.present[size]])

    def ways(self, size):
        """Return the list of the ways to make trees of a size, in order: the number of a sign, and sizes of parts."""
        ways = []
        for sign, (_, arity) in enumerate(self.signs):
            if arity == 0 and size == 1:
                ways.append((sign, ()))
            if arity == 1 and size > 1:
                ways.append((sign, (size - 1,)))
            if arity == 2:
                ways.extend([(sign, (left, size - 1 - left)) for left in range(1, size - 1)])
        return ways

    def first_weights(self, sign, sizes, weights):
        """Return the weights of the rows of a first part, so that its worth is that of the trees over it."""
        entry = self.moves[sign]
        if len(sizes) == 1:
            return [weights[row] for row in entry]
        others = self.present[sizes[1]]
        return [sum([many * weights[row[other]] for other, many in others]) for row in entry]

    def worth_of_way(self, sign, sizes, weights):
        """Return the worth of all trees that are made in a way."""
        if not sizes:
            return weights[self.moves[sign]]
        return self.worth(sizes[0], self.first_weights(sign, sizes, weights))

    def find(self, size, weights, index):
        """Return the tree of a size in which an index ends, its row, and the rest of the index.

        The worth of the trees of this size before it is at most the index,
        and with its own weight it is more; the rest is what is left there.
        """
        for sign, sizes in self.ways(size):
            worth = self.worth_of_way(sign, sizes, weights)
            if index < worth:
                break
            index -= worth
        word = self.signs[sign][0]
        entry = self.moves[sign]
        if not sizes:
            return (word,), entry, index
        first, row, index = self.find(sizes[0], self.first_weights(sign, sizes, weights), index)
        if len(sizes) == 1:
            return (word, first), entry[row], index
        second, other, index = self.find(sizes[1], [weights[last] for last in entry[row]], index)
        return (word, first, second), entry[row][other], index

    def place(self, tree, weights):
        """Return the worth of the trees of the size of a tree that come before it."""
        own = (place_of_sign(self.signs, tree[0]), tuple([size_of(part) for part in tree[1:]]))
        worth = 0
        for sign, sizes in self.ways(size_of(tree)):
            if (sign, sizes) == own:
                break
            worth += self.worth_of_way(sign, sizes, weights)
        sign, sizes = own
        if sizes:
            worth += self.place(tree[1], self.first_weights(sign, sizes, weights))
        if len(sizes) == 2:
            row = row_of(self.signs, self.moves, tree[1], {})
            worth += self.place(tree[2], [weights[last] for last in self.moves[sign][row]])
        return worth
