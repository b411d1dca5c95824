"""Least trees that part books, or readers."""

from pergola.books import floor_of
from pergola.errors import NotAllowed, TooLarge
from pergola.least import Candidates
from pergola.table import entry_at, table_of
from pergola.terms import MAX_TREE


def part(first, second, pairs):
    """Return the least tree that has just one mark of some pair by two books, or None."""
    if first[0] != second[0]:
        raise NotAllowed("the books must have the same signs")
    for mark, other in pairs:
        floor_of(first, mark)
        floor_of(second, other)
    one = marked_reader(first, [mark for mark, _ in pairs])
    other = marked_reader(second, [mark for _, mark in pairs])
    return part_readers(first[0], one, other)


def marked_reader(book, marks):
    """Return what is like a reader, with labels that tell of each of some marks whether a tree has it."""
    rows, moves, _ = table_of(book)
    return tuple([tuple([mark in row for mark in marks]) for row in rows]), moves


def part_readers(signs, first, second):
    """Return the least tree of which two readers tell other labels, or None."""
    search = Search(signs, first, second)
    while search.trees.are_left():
        size, sign, parts = search.trees.take()
        if search.parts_here(size, sign, parts):
            if size > MAX_TREE:
                raise TooLarge("the least tree has a size above 400")
            return search.trees.tree(sign, parts)
    return None


class Search:
    """A search for the least tree that parts two readers.

    Each tree ties its two states to each other. If those of a tree are tied
    already, by trees ahead of it, then in a surrounding that parts them one
    of these lesser trees would part them as well. So only those trees are
    kept that tie something, and they are less than there are states.
    """

    def __init__(self, signs, first, second):
        self.moves = (first[1], second[1])
        self.labels = [*first[0], *second[0]]
        self.start = len(first[0])
        self.ties = list(range(len(self.labels)))
        self.trees = Candidates(signs)
        self.state_pairs = []

    def parts_here(self, size, sign, parts):
        """Return True if this tree parts the readers; keep it if it is to be kept."""
        one = entry_at(self.moves[0][sign], [self.state_pairs[at][0] for at in parts])
        other = entry_at(self.moves[1][sign], [self.state_pairs[at][1] for at in parts])
        low = self.ties[one]
        high = self.ties[self.start + other]
        if low != high:
            self.ties = [low if tie == high else tie for tie in self.ties]
            self.trees.keep(size, sign, parts)
            self.state_pairs.append((one, other))
        return self.labels[one] != self.labels[self.start + other]
