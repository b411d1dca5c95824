"""Sortings of samples, the readers that they tell, and the labels that are possible."""

from pergola.errors import Missing, NotAllowed
from pergola.readers import MAX_STATES
from pergola.table import moves_over
from pergola.tries import SampleParts, Search

MAX_TRIES = 20000


def first_sorting(signs, sample, most):
    """Return the first sorting of a sample with at most so many states, and None if there is none."""
    check_most(most)
    parts = SampleParts(signs, sample)
    return Search(parts, parts.given, most, MAX_TRIES).find()


def check_most(most):
    """Raise NotAllowed if an integer is not a number of states."""
    if not 1 <= most <= MAX_STATES:
        raise NotAllowed("there must be 1 to 24 states")


def reader_of(signs, sample, sorting):
    """Return the reader of a sorting of a sample."""
    return reader_over(SampleParts(signs, sample), sorting)


def reader_over(parts, sorting):
    """Return the reader of a sorting of these parts."""
    many = max(sorting, default=0) + 1
    labels = [()] * many
    entries = {}
    for (sign, inner), number, label in zip(parts.makings, sorting, parts.given):
        entries[(sign, tuple([sorting[place] for place in inner]))] = number
        if label is not None:
            labels[number] = label
    moves = moves_over(parts.signs, list(range(many)), lambda sign, states: entries.get((sign, states), 0))
    return tuple(labels), moves


def least_fit(signs, sample, most):
    """Return the reader of the first sorting with the least number of states, which is at most `most`."""
    check_most(most)
    parts = SampleParts(signs, sample)
    for states in range(1, most + 1):
        sorting = Search(parts, parts.given, states, MAX_TRIES).find()
        if sorting is not None:
            return reader_over(parts, sorting)
    raise Missing("no reader with so many states fits the sample")


def possible_labels(signs, labels, sample, tree, most):
    """Return the tuple of those labels that a tree may have by readers that fit a sample."""
    if first_sorting(signs, sample, most) is None:
        raise Missing("no reader with so many states fits the sample")
    parts = SampleParts(signs, (*sample, (tree, ())))
    place = parts.tree_places[-1]
    if place in parts.tree_places[:-1]:
        own = sample[parts.tree_places.index(place)][1]
        return tuple([label for label in labels if label == own])
    had = {label: True for _, label in sample}
    answers = {}
    for label in labels:
        # All labels that the sample does not have are as good as one another.
        if had_or_new(had, label) not in answers:
            answers[had_or_new(had, label)] = is_possible(parts, place, label, most)
    return tuple([label for label in labels if answers[had_or_new(had, label)]])


def had_or_new(had, label):
    """Return a label that a sample has, and None for all others."""
    return label if label in had else None


def is_possible(parts, place, label, most):
    """Return True if there is a sorting with a label for the tree at a place."""
    labels = [*parts.given[:place], label, *parts.given[place + 1:]]
    return Search(parts, labels, most, MAX_TRIES).find() is not None
