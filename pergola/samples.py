"""Samples: trees with labels, surroundings of trees, and the parts of samples.

All terms without names count as trees here, whatever their size.
"""

from pergola.errors import NotAllowed
from pergola.pool import Pool, told_over
from pergola.readers import is_label
from pergola.table import entry_at
from pergola.terms import fill, is_node, is_sign_over, names_of, nodes_of

MAX_SAMPLE = 5000


def is_surrounding(signs, value):
    """Return True if a value is a term in which just one name stands, and just once."""
    nodes = nodes_of(value)
    names = [node for node in nodes if not isinstance(node, tuple)]
    return len(names) == 1 and all([is_node(signs, node) for node in nodes])


def make(surrounding, tree):
    """Return the tree that a surrounding makes of a tree."""
    return fill(surrounding, {names_of(surrounding)[0]: tree})


def check_sample(signs, sample):
    """Raise NotAllowed if pairs of a value and a tuple of texts are not a sample."""
    if len(sample) > MAX_SAMPLE:
        raise NotAllowed("there must be at most 5000 pairs")
    arities = dict(signs)
    for tree, label in sample:
        if not all([is_sign_over(arities, node) for node in nodes_of(tree)]):
            raise NotAllowed("there must be trees")
        if not is_label(label):
            raise NotAllowed("a label must be at most 6 different words")
    pool = Pool(signs)
    numbers = [pool.number_for(tree) for tree, _ in sample]
    if len(set(numbers)) < len(numbers):
        raise NotAllowed("a tree stands twice")


def fits(signs, reader, sample):
    """Return True if a reader tells of each tree of a sample the label that the sample has for it."""
    labels, moves = reader
    pool = Pool(signs)
    numbers = [pool.number_for(tree) for tree, _ in sample]
    states = told_over(pool.makings, lambda sign, parts: entry_at(moves[sign], parts))
    return all([labels[states[number]] == label for number, (_, label) in zip(numbers, sample)])


def parts_of(signs, sample):
    """Return the list of all trees that stand within those of a sample, each once, in order."""
    pool = Pool(signs)
    for tree, _ in sample:
        pool.number_for(tree)
    return [pool.tree(number) for number in pool.in_order()]
