"""Marks that are kept by a turner, with papers, and least trees that are turned into a tree."""

from pergola.books import floor_of
from pergola.errors import BadPaper, NotAllowed, TooLarge
from pergola.follow import NOT_TURNED, Follow
from pergola.least import least_makings, tree_made
from pergola.pool import Pool
from pergola.stands import MAX_STANDS
from pergola.table import entry_at, is_ascending, moves_over, table_of, tuples_of

MAX_TRIPLES = 120
# A reader needs one state more, for all other trees.
MAX_SUBTREES = 23


class Kept:
    """A turner with a book and mark on either side: the triples of trees, and which of them fail.

    Raises the errors that are due ahead of all others.
    """

    def __init__(self, turner, first, mark, second, other):
        if first[0] != turner[0] or second[0] != turner[1]:
            raise NotAllowed("the signs of the books must be those of the turner")
        floor_of(first, mark)
        floor_of(second, other)
        rows, self.row_moves, _ = table_of(first)
        others, moves, _ = table_of(second)
        self.signs = first[0]
        self.follow = Follow(turner, moves)
        self.asked = [mark in row for row in rows]
        self.granted = [other in row for row in others]
        self.looks = len(turner[2][0])
        self.many_states = len(turner[3])
        self.known = {}

    def triple(self, sign, triples):
        """Return the triple that follows for the sign with this number over parts with these triples."""
        row = entry_at(self.row_moves[sign], [row for row, _, _ in triples])
        key = (sign, *[(look, told) for _, look, told in triples])
        # Many triples differ in their rows alone.
        if key not in self.known:
            self.known[key] = self.follow.stand(sign, key[1:])
        return (row, *self.known[key])

    def fails(self, triple):
        """Return True if the trees with a triple fail."""
        row, _, told = triple
        return self.asked[row] and (told[0] == NOT_TURNED or not self.granted[told[0]])

    def is_triple(self, triple):
        """Return True if two integers and a tuple of integers are a triple, maybe of no tree."""
        row, look, told = triple
        if not 0 <= row < len(self.asked) or not 0 <= look < self.looks or len(told) != self.many_states:
            return False
        return all([NOT_TURNED <= number < len(self.granted) for number in told])


def fit(turner, first, mark, second, other):
    """Return the paper that no tree fails, or the least tree that fails, each with a word ahead of it."""
    kept = Kept(turner, first, mark, second, other)
    triples, makings = least_makings(kept.signs, kept.triple, MAX_TRIPLES)
    for number, triple in enumerate(triples):
        if kept.fails(triple):
            return "fails", tree_made(kept.signs, makings, number)
    return "fits", tuple(sorted(triples))


def judge_fit(turner, first, mark, second, other, paper):
    """Raise BadPaper if a tuple of triples is not a right paper that no tree fails."""
    kept = Kept(turner, first, mark, second, other)
    if not all([kept.is_triple(triple) for triple in paper]):
        raise BadPaper("there must be triples")
    if not is_ascending(paper):
        raise BadPaper("the triples must be different, and ascend")
    if any([kept.fails(triple) for triple in paper]):
        raise BadPaper("a triple fails")
    present = {triple: True for triple in paper}
    for sign, (_, arity) in enumerate(kept.signs):
        for triples in tuples_of(paper, arity):
            if kept.triple(sign, triples) not in present:
                raise BadPaper("a triple that follows is left out")


def least_into(turner, tree):
    """Return the least tree that is turned into a tree, and None if none is."""
    ins, outs, _, _ = turner
    pool = Pool(outs)
    pool.number_for(tree)
    order = pool.in_order()
    if len(order) > MAX_SUBTREES:
        raise TooLarge("the tree has more than 23 different subtrees")
    ranks = {number: rank for rank, number in enumerate(order)}
    states = list(range(len(order) + 1))
    moves = moves_over(outs, states, lambda sign, parts: state_over(pool, order, ranks, sign, parts))
    stands, makings = Follow(turner, moves).all_stands(MAX_STANDS)
    for number, (_, told) in enumerate(stands):
        # The tree itself is the last one of its subtrees.
        if told[0] == len(order) - 1:
            return tree_made(ins, makings, number)
    return None


def state_over(pool, order, ranks, sign, states):
    """Return the rank of a sign over trees of a pool with these ranks, or the one behind all ranks."""
    others = len(order)
    if others in states:
        return others
    number = pool.numbers.get((sign, tuple([order[state] for state in states])), -1)
    return ranks.get(number, others)
