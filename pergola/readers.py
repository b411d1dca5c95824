"""Readers of trees, and the least ones."""

from pergola.bodies import bits_of, words_of
from pergola.errors import NotAllowed
from pergola.least import least_makings
from pergola.table import entry_at, is_entry, moves_over, row_of, table_of
from pergola.terms import are_different_words

MAX_STATES = 24
MAX_LABEL = 6


def check_reader(signs, reader):
    """Raise NotAllowed if a pair of labels and moves is not a reader over the signs."""
    labels, moves = reader
    many = len(labels)
    if not 1 <= many <= MAX_STATES:
        raise NotAllowed("there must be 1 to 24 states")
    if not all([is_label(label) for label in labels]):
        raise NotAllowed("a label must be at most 6 different words")
    if len(moves) != len(signs):
        raise NotAllowed("there must be an entry for each sign")
    for entry, (_, arity) in zip(moves, signs):
        if not is_entry(entry, arity, many):
            raise NotAllowed("an entry must tell a state for all states")


def is_label(texts):
    """Return True if a tuple of texts is a label."""
    return len(texts) <= MAX_LABEL and are_different_words(list(texts))


def read_tree(signs, reader, tree):
    """Return the label that a reader tells of a tree."""
    labels, moves = reader
    return labels[row_of(signs, moves, tree, {})]


def least_reader(book, marks):
    """Return the least reader of some marks of a book."""
    known = words_of(book[1], bits_of(book[1], marks))
    if sorted(known) != sorted(marks):
        raise NotAllowed("there must be different marks of the book")
    rows, moves, _ = table_of(book)
    labels = tuple([tuple([mark for mark in marks if mark in row]) for row in rows])
    return least_of(book[0], (labels, moves))


def least_of(signs, reader):
    """Return the least reader that is alike to a reader."""
    labels, moves = reader
    states, _ = least_makings(signs, lambda sign, parts: entry_at(moves[sign], parts))
    kinds = kinds_of(signs, reader, states)
    # States stand in the order of their least trees, so the first one of a
    # kind has the least tree of the kind.
    firsts = []
    for state in states:
        if kinds[state] == len(firsts):
            firsts.append(state)
    shown = moves_over(signs, firsts, lambda sign, parts: kinds[entry_at(moves[sign], parts)])
    return tuple([labels[state] for state in firsts]), shown


def kinds_of(signs, reader, states):
    """Return a dict with the number of the kind of each of some states, which no surrounding tells apart.

    The kinds are numbered as they first come; no other state can be reached
    from these states.
    """
    labels, moves = reader
    kinds = numbers_of(states, [labels[state] for state in states])
    many = 0
    while many <= max(kinds.values()):
        many = 1 + max(kinds.values())
        told = [(kinds[state], around(signs, moves, kinds, states, state)) for state in states]
        kinds = numbers_of(states, told)
    return kinds


def around(signs, moves, kinds, states, state):
    """Return a tuple of the kinds to which the signs lead from a state, with all states beside it."""
    told = []
    for entry, (_, arity) in zip(moves, signs):
        if arity == 1:
            told.append(kinds[entry[state]])
        if arity == 2:
            told.extend([kinds[entry[state][other]] for other in states])
            told.extend([kinds[entry[other][state]] for other in states])
    return tuple(told)


def numbers_of(states, told):
    """Return a dict that numbers states by what is told of each of them, from 0 on, as it first comes."""
    numbers = {}
    for key in told:
        if key not in numbers:
            numbers[key] = len(numbers)
    return {state: numbers[key] for state, key in zip(states, told)}
