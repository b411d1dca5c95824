"""Sayings about all trees, and the trees of which they hold."""

from pergola.books import MAX_TERM
from pergola.errors import Missing, NotAllowed
from pergola.table import table_of
from pergola.terms import is_name, is_term_within, names_of, number_beside
from pergola.truths import Truths

MAX_NODES = 60
MAX_NESTED = 4


def check_saying(book, saying):
    """Raise NotAllowed if a value is not a saying over a book."""
    waiting = [(saying, 0)]
    nodes = 0
    while waiting:
        part, nested = waiting.pop()
        nodes += 1
        if nodes > MAX_NODES:
            raise NotAllowed("a saying must have at most 60 nodes")
        parts = parts_of_saying(book, part)
        if part[0] in ("all", "some"):
            nested += 1
        if nested > MAX_NESTED:
            raise NotAllowed("at most 4 quantifiers may stand within one another")
        waiting.extend([(inner, nested) for inner in parts])


def parts_of_saying(book, value):
    """Return the tuple of the sayings that stand directly in a saying.

    Raises NotAllowed if the value is no saying even if these are sayings.
    """
    if not isinstance(value, tuple) or not value:
        raise NotAllowed("a saying must be a tuple that is not empty")
    kind = value[0]
    if kind == "not" and len(value) == 2:
        return value[1:]
    if len(value) != 3:
        raise NotAllowed("a saying must have as many parts as its kind asks for")
    _, first, second = value
    if kind in ("and", "or"):
        return first, second
    if kind in ("all", "some") and isinstance(first, str) and is_name(book[0], first):
        return (second,)
    if kind == "at" and number_beside(book[1], first) >= 0 and is_term_within(book[0], second, MAX_TERM):
        return ()
    raise NotAllowed("this is not a saying over the book")


def free_names(saying):
    """Return the list of the free names of a saying as they first stand in it."""
    found = {}
    add_free(saying, (), found)
    return list(found)


def add_free(saying, bound, found):
    """Add the free names of a saying, but those that are bound around it, to a dict."""
    kind = saying[0]
    if kind == "at":
        for name in names_of(saying[2]):
            if name not in bound:
                found[name] = True
    elif kind in ("all", "some"):
        add_free(saying[2], (*bound, saying[1]), found)
    else:
        for part in saying[1:]:
            add_free(part, bound, found)


def nested_in(saying):
    """Return how many quantifiers stand within one another in a saying."""
    kind = saying[0]
    if kind == "at":
        return 0
    if kind in ("all", "some"):
        return 1 + nested_in(saying[2])
    return max([nested_in(part) for part in saying[1:]])


def holds(book, saying, filling):
    """Return True if a saying holds under a filling."""
    names = free_names(saying)
    check_free(saying, filling)
    truths = Truths(book, table_of(book))
    return truths.holds(saying, names, [truths.value(filling[name]) for name in names])


def true_rows(book, saying, names):
    """Return the list of the tuples of numbers of rows for names with which a saying holds."""
    check_names(book, saying, names)
    check_free(saying, names)
    truths = Truths(book, table_of(book))
    return truths.rows_in(truths.cells(saying, names, []), len(names))


def check_names(book, saying, names):
    """Raise NotAllowed if rows for these names cannot be asked for."""
    if len(set(names)) < len(names) or not all([is_name(book[0], name) for name in names]):
        raise NotAllowed("names must be different words that are no signs")
    if len(names) + nested_in(saying) > MAX_NESTED:
        raise NotAllowed("there are too many names, and quantifiers within one another")


def check_free(saying, names):
    """Raise Missing if a free name of a saying is not among the names."""
    for name in free_names(saying):
        if name not in names:
            raise Missing(f"there is nothing for the name {name}")
