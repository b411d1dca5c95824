"""Pickers, which take trees in ways."""

from pergola.errors import Missing, NotAllowed, TooLarge
from pergola.readers import MAX_STATES, least_of
from pergola.table import moves_over
from pergola.ways import Capped, Ways, good_ways

MAX_PICKED = 6
MAX_SHOWN = 500


def check_picker(signs, picker):
    """Raise NotAllowed if an integer, a tuple of tuples, and a tuple of integers are not a picker over the signs."""
    many, moves, goods = picker
    if not 1 <= many <= MAX_PICKED:
        raise NotAllowed("there must be 1 to 6 states")
    if len(moves) != len(signs):
        raise NotAllowed("there must be an entry for each sign")
    for entry, (_, arity) in zip(moves, signs):
        if not is_choice_entry(entry, arity, many):
            raise NotAllowed("an entry must have an ascending tuple of states for all states")
    if not are_states(goods, many):
        raise NotAllowed("the good states must be an ascending tuple of states")


def is_choice_entry(value, arity, many):
    """Return True if a value is an entry for a sign of this arity, with so many states."""
    if arity == 0:
        return are_states(value, many)
    if not isinstance(value, tuple) or len(value) != many:
        return False
    return all([is_choice_entry(part, arity - 1, many) for part in value])


def are_states(value, many):
    """Return True if a value is an ascending tuple of states."""
    if not isinstance(value, tuple) or not all([isinstance(state, int) and 0 <= state < many for state in value]):
        return False
    return all([value[at] < value[at + 1] for at in range(len(value) - 1)])


def counts_of(signs, picker, tree):
    """Return the tuple of the numbers of the ways of a tree to each state."""
    ways = Ways(signs, picker, tree)
    return tuple(ways.counted[ways.root])


def count_ways(signs, picker, tree):
    """Return the number of the ways of a tree."""
    return Ways(signs, picker, tree).total()


def is_way(signs, picker, tree, way):
    """Return True if a value is one of the ways of a tree."""
    ways = Ways(signs, picker, tree)
    return ways.is_way(ways.root, way) and way[0] in ways.goods


def way_at(signs, picker, tree, number):
    """Return the way of a tree with a number."""
    ways = Ways(signs, picker, tree)
    if not 0 <= number < ways.total():
        raise Missing("there is no way with this number")
    return ways.way(number)


def number_of(signs, picker, tree, way):
    """Return the number of a way of a tree."""
    ways = Ways(signs, picker, tree)
    if not ways.is_way(ways.root, way) or way[0] not in ways.goods:
        raise Missing("this is no way of the tree")
    return ways.find_number(way)


def ways_of(signs, picker, tree):
    """Return the list of all ways of a tree, in order."""
    ways = Ways(signs, picker, tree)
    if ways.total() > MAX_SHOWN:
        raise TooLarge("there are more than 500 ways")
    return ways.every_way()


def taken_reader(signs, picker):
    """Return the least reader that tells which trees have a way."""
    return reader_of_counts(signs, picker, ((), ("yes",)))


def known_reader(signs, picker):
    """Return the least reader that tells whether trees have no way, one way or more."""
    return reader_of_counts(signs, picker, (("none",), ("one",), ("more",)))


def reader_of_counts(signs, picker, labels):
    """Return the least reader of the numbers of ways, with a label for each number; the last one is for more, too."""
    last = len(labels) - 1
    capped = Capped(signs, picker, last)
    found, _ = capped.all_counts(MAX_STATES)
    numbers = {counts: number for number, counts in enumerate(found)}
    moves = moves_over(signs, found, lambda sign, parts: numbers[capped.over(sign, parts)])
    told = [labels[min(good_ways(picker, counts), last)] for counts in found]
    return least_of(signs, (tuple(told), moves))
