"""Sortings of samples, the readers that they tell, and the labels that are possible."""

from pergola.errors import Missing, NotAllowed
from pergola.pool import Pool
from pergola.readers import MAX_STATES
from pergola.table import moves_over
from pergola.tries import SampleParts, Search

MAX_TRIES = 20000


def first_sorting(signs, sample, most):
    """Return the first sorting of a sample with at most so many states, and None if there is none."""
    check_most(most)
    return sorting_of(sample_parts(signs, sample), most)


def sample_parts(signs, sample):
    """Return the parts of a sample."""
    pool = Pool(signs)
    numbers = [pool.number_for(tree) for tree, _ in sample]
    return SampleParts(signs, pool, numbers, [label for _, label in sample])


def sorting_of(parts, most):
    """Return the first sorting of these parts with at most so many states, and None if there is none."""
    return Search(parts, parts.given, most, MAX_TRIES).find()


def check_most(most):
    """Raise NotAllowed if an integer is not a number of states."""
    if not 1 <= most <= MAX_STATES:
        raise NotAllowed("there must be 1 to 24 states")


def reader_of(signs, sample, sorting):
    """Return the reader of a sorting of a sample."""
    return reader_over(sample_parts(signs, sample), sorting)


def reader_over(parts, sorting):
    """Return the reader of a sorting of these parts."""
    many = max(sorting, default=0) + 1
    labels = [()] * many
    entries = {}
    for (sign, inner), number, label in zip(parts.makings, sorting, parts.given):
        entries[(sign, tuple([sorting[place] for place in inner]))] = number
        if label is not None:
            labels[number] = label
    moves = moves_over(parts.signs, list(range(many)), lambda sign, states: entries.get((sign, states), 0))
    return tuple(labels), moves


def least_fit(signs, sample, most):
    """Return the reader of the first sorting with the least number of states, which is at most `most`."""
    check_most(most)
    parts = sample_parts(signs, sample)
    for states in range(1, most + 1):
        sorting = sorting_of(parts, states)
        if sorting is not None:
            return reader_over(parts, sorting)
    raise Missing("no reader with so many states fits the sample")


def possible_labels(signs, labels, sample, tree, most):
    """Return the tuple of those labels that a tree may have by readers that fit a sample."""
    check_most(most)
    pool = Pool(signs)
    numbers = [pool.number_for(other) for other, _ in sample]
    known = [label for _, label in sample]
    if sorting_of(SampleParts(signs, pool, numbers, known), most) is None:
        raise Missing("no reader with so many states fits the sample")
    number = pool.number_for(tree)
    if number in numbers:
        own = known[numbers.index(number)]
        return tuple([label for label in labels if label == own])
    parts = SampleParts(signs, pool, [*numbers, number], [*known, ()])
    place = parts.tree_places[-1]
    had = {label: True for _, label in sample}
    answers = {}
    for label in labels:
        # All labels that the sample does not have are as good as one another.
        if had_or_new(had, label) not in answers:
            answers[had_or_new(had, label)] = is_possible(parts, place, label, most)
    return tuple([label for label in labels if answers[had_or_new(had, label)]])


def had_or_new(had, label):
    """Return a label that a sample has, and None for all others."""
    return label if label in had else None


def is_possible(parts, place, label, most):
    """Return True if there is a sorting with a label for the tree at a place."""
    labels = [*parts.given[:place], label, *parts.given[place + 1:]]
    return Search(parts, labels, most, MAX_TRIES).find() is not None
