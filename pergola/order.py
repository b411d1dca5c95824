"""The order of trees, and the trees of a size."""

from pergola.errors import NotAllowed, TooLarge
from pergola.terms import nodes_of

MAX_COUNTED = 60
MAX_LISTED = 2000


def compare_trees(signs, first, second):
    """Return -1, 0 or 1, as the first tree is before, at or behind the second one."""
    one = order_key(signs, first)
    other = order_key(signs, second)
    if one < other:
        return -1
    return 0 if one == other else 1


def order_key(signs, tree):
    """Return a list by which the tree stands where the order of trees puts it.

    It has the size and the place of the sign of each tree within the tree,
    from left to right. As long as two trees have the same ones there, these
    are those of the same places in both trees, so the first ones that differ
    are the first parts that differ.
    """
    places = {sign: place for place, (sign, _) in enumerate(signs)}
    key = []
    sizes = []
    for node in reversed(nodes_of(tree)):
        size = 1
        for _ in node[1:]:
            size += sizes.pop()
        sizes.append(size)
        key.append((size, places[node[0]]))
    key.reverse()
    return key


def place_of_sign(signs, word):
    """Return the index of a sign among the signs."""
    return [sign for sign, _ in signs].index(word)


def count_trees(signs, size):
    """Return the number of all trees of a size."""
    check_size(size)
    return counts_to(signs, size)[size]


def trees_of(signs, size):
    """Return the list of all trees of a size, in order."""
    check_size(size)
    many = counts_to(signs, size)[size]
    if many > MAX_LISTED:
        raise TooLarge(f"there are {many} trees of this size")
    # Sizes that lead to no tree of this size may have far too many trees.
    if many == 0:
        return []
    by_size = [[]]
    for lesser in range(1, size + 1):
        by_size.append(trees_over(signs, by_size, lesser))
    return by_size[size]


def check_size(size):
    """Raise NotAllowed if trees of the size are not counted."""
    if not 0 <= size <= MAX_COUNTED:
        raise NotAllowed("the size must be from 0 to 60")


def counts_to(signs, size):
    """Return the list of the numbers of trees of the sizes from 0 to this one."""
    counts = [0]
    for lesser in range(1, size + 1):
        counts.append(sum([count_over(counts, arity, lesser) for _, arity in signs]))
    return counts


def count_over(counts, arity, size):
    """Return how many trees of a size have a sign with this arity.

    `counts` has the numbers of the trees of all lesser sizes.
    """
    if arity == 0:
        return 1 if size == 1 else 0
    if arity == 1:
        return counts[size - 1]
    return sum([counts[left] * counts[size - 1 - left] for left in range(1, size - 1)])


def trees_over(signs, by_size, size):
    """Return the trees of a size, in order, from the lists of those of lesser sizes."""
    trees = []
    for sign, arity in signs:
        if arity == 0 and size == 1:
            trees.append((sign,))
        if arity == 1:
            trees.extend([(sign, part) for part in by_size[size - 1]])
        if arity == 2:
            trees.extend(pairs_over(sign, by_size, size))
    return trees


def pairs_over(sign, by_size, size):
    """Return the trees of a size with a sign of the arity 2, in order."""
    pairs = []
    for left in range(1, size - 1):
        for first in by_size[left]:
            pairs.extend([(sign, first, second) for second in by_size[size - 1 - left]])
    return pairs
