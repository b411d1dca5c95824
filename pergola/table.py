"""Tables over books, and the table of a book."""

from pergola.bodies import bits_of, words_of
from pergola.books import floor_of
from pergola.errors import NotAllowed, TooLarge
from pergola.floors import floors_of
from pergola.least import sizes_of, trees_made
from pergola.terms import MAX_DEEP, MAX_TREE, NO_TREE, is_sign_over, measure, nodes_of

MAX_ROWS = 24


def check_table(book, table):
    """Raise NotAllowed if three tuples are not a table over a book."""
    signs, marks, _ = book
    rows, moves, trees = table
    many = len(rows)
    if not 1 <= many <= MAX_ROWS:
        raise NotAllowed("there must be 1 to 24 rows")
    for row in rows:
        if row != words_of(marks, bits_of(marks, row)):
            raise NotAllowed("a row must have different marks of the book, in their order")
    if len(moves) != len(signs):
        raise NotAllowed("there must be an entry for each sign")
    for entry, (_, arity) in zip(moves, signs):
        if not is_entry(entry, arity, many):
            raise NotAllowed("an entry must tell the number of a row for all rows")
    if len(trees) != many or not are_trees(signs, trees):
        raise NotAllowed("there must be a tree for each row")


def are_trees(signs, values):
    """Return True if all of some values are trees."""
    arities = dict(signs)
    known = []
    measures = []
    for value in values:
        told = measure_over(arities, value, known, measures)
        if told == NO_TREE:
            return False
        known.append(value)
        measures.append(told)
    return True


def measure_over(arities, value, known, measures):
    """Return the size and depth of a tree, or NO_TREE; those of some trees, which may be its parts, are known."""
    # Least trees have least trees as their parts, so this spares most of the work.
    if not is_sign_over(arities, value) or not all([part in known for part in value[1:]]):
        return measure(arities, value)
    told = [measures[known.index(part)] for part in value[1:]]
    size = 1 + sum([size for size, _ in told])
    depth = 1 + max([depth for _, depth in told], default=0)
    return (size, depth) if size <= MAX_TREE and depth <= MAX_DEEP else NO_TREE


def is_entry(value, arity, many):
    """Return True if a value is an entry for a sign of this arity, with so many rows."""
    if arity == 0:
        return isinstance(value, int) and 0 <= value < many
    if not isinstance(value, tuple) or len(value) != many:
        return False
    return all([is_entry(part, arity - 1, many) for part in value])


def entry_at(entry, rows):
    """Return what the entry for a sign has at the rows of its parts."""
    for row in rows:
        entry = entry[row]
    return entry


def row_of(signs, moves, term, filling):
    """Return the number of the row of a term by the moves."""
    entries = {sign: entry for (sign, _), entry in zip(signs, moves)}
    # Each part of a term is worked out before the term itself.
    done = []
    for node in reversed(nodes_of(term)):
        if isinstance(node, tuple):
            entry = entries[node[0]]
            for _ in node[1:]:
                entry = entry[done.pop()]
            done.append(entry)
        else:
            done.append(filling[node])
    return done[0]


def table_of(book):
    """Return the table of a book; raise TooLarge if there is none."""
    return table_on(book, floors_of(book, MAX_ROWS)[-1])


def table_on(book, top):
    """Return the table of a book whose highest floor with marks is worked out."""
    signs, marks, _ = book
    if max(sizes_of(top.makings)) > MAX_TREE:
        raise TooLarge("a least tree has a size above 400")
    rows = tuple([words_of(marks, value) for value in top.reached])
    numbers = {value: number for number, value in enumerate(top.reached)}
    moves = moves_over(signs, top.reached, lambda sign, parts: numbers[top.step(sign, parts)])
    return rows, moves, tuple(trees_made(signs, top.makings))


def moves_over(signs, values, tell):
    """Return moves that have `tell(sign, parts)` for each number of a sign and all values for its parts."""
    return tuple([entry_over(arity, values, sign, tell) for sign, (_, arity) in enumerate(signs)])


def entry_over(arity, values, sign, tell):
    """Return the entry for the sign with a number in such moves."""
    if arity == 0:
        return tell(sign, ())
    if arity == 1:
        return tuple([tell(sign, (value,)) for value in values])
    return tuple([tuple([tell(sign, (value, other)) for other in values]) for value in values])


def marks_of(book, tree):
    """Return the tuple of the marks that a tree has."""
    rows, moves, _ = table_of(book)
    return rows[row_of(book[0], moves, tree, {})]


def has(book, mark, tree):
    """Return True if a tree has a mark."""
    floor_of(book, mark)
    return mark in marks_of(book, tree)


def tuples_of(values, many):
    """Return the list of all tuples of so many of these values."""
    tuples = [()]
    for _ in range(many):
        tuples = [(*front, value) for front in tuples for value in values]
    return tuples


def is_ascending(values):
    """Return True if each of some values is less than the next one."""
    return all([values[at] < values[at + 1] for at in range(len(values) - 1)])
