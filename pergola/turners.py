"""Turners, which make trees of trees, and what they turn trees into."""

from pergola.errors import Missing, NotAllowed, TooLarge
from pergola.pieces import calls_in, size_over, with_calls
from pergola.pool import Pool, told_over
from pergola.readers import check_reader
from pergola.table import entry_at, table_of
from pergola.terms import MAX_DEEP, MAX_TREE, check_signs, depth_of, is_sign_over

MAX_PIECE = 24
MAX_TURNING = 8


def check_turner(turner):
    """Raise NotAllowed if a tuple of signs, signs, a reader and sides is not a turner."""
    ins, outs, reader, sides = turner
    check_signs(ins)
    check_signs(outs)
    check_reader(ins, reader)
    if not 1 <= len(sides) <= MAX_TURNING:
        raise NotAllowed("there must be 1 to 8 states")
    for entries in sides:
        if not isinstance(entries, tuple) or len(entries) != len(ins):
            raise NotAllowed("there must be an entry for each sign")
        for entry, (_, arity) in zip(entries, ins):
            check_entry(turner, arity, arity, entry)


def check_entry(turner, arity, left, value):
    """Raise NotAllowed if a value is not an entry, for a sign of this arity, with so many looks left to be told."""
    _, outs, reader, sides = turner
    if left == 0:
        if not is_side(dict(outs), len(sides), arity, value):
            raise NotAllowed("a side must be empty or a piece of a size of at most 24")
    elif not isinstance(value, tuple) or len(value) != len(reader[0]):
        raise NotAllowed("an entry must have a side for all states of the reader")
    else:
        for inner in value:
            check_entry(turner, arity, left - 1, inner)


def is_side(arities, states, parts, value):
    """Return True if a value is a side over some signs, for so many states and parts; `arities` is a dict."""
    if value == ():
        return True
    many = 0
    waiting = [value]
    while waiting:
        piece = waiting.pop()
        many += 1
        if many > MAX_PIECE:
            return False
        if is_sign_over(arities, piece):
            waiting.extend(piece[1:])
        elif not is_call_for(states, parts, piece):
            return False
    return True


def is_call_for(states, parts, value):
    """Return True if a value is a call, for so many states and parts."""
    if not isinstance(value, tuple) or len(value) != 2:
        return False
    state, part = value
    if not isinstance(state, int) or not isinstance(part, int):
        return False
    return 0 <= state < states and 0 <= part < parts


def look_of(book):
    """Return the reader whose labels are the rows of a book's table, with its moves."""
    rows, moves, _ = table_of(book)
    return rows, moves


def turned(turner, tree):
    """Return what a tree is turned into, and None if it is not turned."""
    turning = Turning(turner, tree)
    size = turning.size()
    if size == 0:
        return None
    if size > MAX_TREE:
        raise TooLarge("what comes of it has a size above 400")
    made = turning.make()
    if depth_of(made) > MAX_DEEP:
        raise TooLarge("what comes of it has a depth above 100")
    return made


def size_turned(turner, tree):
    """Return the size of what a tree is turned into, and 0 if it is not turned."""
    return Turning(turner, tree).size()


def counts_at(turner, tree, path):
    """Return the tuple of the counts at a path in a tree that is turned."""
    turning = Turning(turner, tree)
    if turning.size() == 0:
        raise NotAllowed("the tree is not turned")
    return turning.counts(path)


class Turning:
    """A turner and a tree, with the looks of all trees within it, and the sizes of what each state makes of them.

    A size is 0 if the state does not turn the tree.
    """

    def __init__(self, turner, tree):
        ins, _, reader, sides = turner
        pool = Pool(ins)
        self.whole = pool.number_for(tree)
        self.all_sides = sides
        self.makings = pool.makings
        self.looks = told_over(pool.makings, lambda sign, looks: entry_at(reader[1][sign], looks))
        self.all_sizes = []
        for number, (_, parts) in enumerate(pool.makings):
            sizes = [self.all_sizes[part] for part in parts]
            found = [size_of_side(self.side_at(state, number), sizes) for state in range(len(sides))]
            self.all_sizes.append(found)

    def side_at(self, state, number):
        """Return the side of a state at the tree with a number."""
        sign, parts = self.makings[number]
        return entry_at(self.all_sides[state][sign], [self.looks[part] for part in parts])

    def size(self):
        """Return the size of what the tree is turned into."""
        return self.all_sizes[self.whole][0]

    def make(self):
        """Return what the tree is turned into."""
        needed = self.states_needed()
        made = {}
        for number in range(len(self.makings)):
            _, parts = self.makings[number]
            for state in needed[number]:
                side = self.side_at(state, number)
                made[(number, state)] = with_calls(side, lambda inner, part: made[(parts[part], inner)])
        return made[(self.whole, 0)]

    def states_needed(self):
        """Return a list that has for each tree within the whole one the states that are to turn it, as a dict."""
        needed = [{} for _ in self.makings]
        needed[self.whole][0] = True
        for number in range(self.whole, -1, -1):
            _, parts = self.makings[number]
            for state in list(needed[number]):
                for inner, part in calls_in(self.side_at(state, number)):
                    needed[parts[part]][inner] = True
        return needed

    def counts(self, path):
        """Return the tuple of the counts at a path; raise Missing if it leads nowhere."""
        number = self.whole
        counts = [1] + [0] * (len(self.all_sides) - 1)
        for at in path:
            _, parts = self.makings[number]
            if not 0 <= at < len(parts):
                raise Missing("the path leads nowhere")
            sides = [self.side_at(state, number) for state in range(len(counts))]
            counts = counts_behind(sides, counts, at)
            number = parts[at]
        return tuple(counts)


def size_of_side(side, sizes):
    """Return the size of what a side becomes, and 0 if it is empty or a call in it has the size 0."""
    if not side or 0 in [sizes[part][state] for state, part in calls_in(side)]:
        return 0
    return size_over(side, sizes)


def counts_behind(sides, counts, at):
    """Return the list of the counts at a part, from those of the whole and the side of each state there."""
    found = [0] * len(counts)
    for side, count in zip(sides, counts):
        if count:
            for state, part in calls_in(side):
                if part == at:
                    found[state] += count
    return found
