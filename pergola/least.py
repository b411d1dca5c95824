"""The values that trees have, in the order of the least trees that have them."""

from heapq import heappop, heappush

from pergola.errors import TooLarge
from pergola.terms import MAX_TREE


def least_makings(signs, step, most=None):
    """Return two lists: the values that trees have, and how their least trees are made.

    `step(sign, parts)` tells the value of the sign with this number over a
    tuple of values. The values stand in the order of the least trees that
    have them. Each of these trees is told by the number of its sign and the
    tuple of the indexes of its parts. If trees have more than `most` values,
    TooLarge is raised.
    """
    values = []
    makings = []
    sizes = []
    found = {}
    singles = [sign for sign, (_, arity) in enumerate(signs) if arity == 1]
    doubles = [sign for sign, (_, arity) in enumerate(signs) if arity == 2]
    # The least trees are found in their order, so comparing the indexes of
    # parts compares the parts.
    queue = [(1, sign, ()) for sign, (_, arity) in enumerate(signs) if arity == 0]
    while queue:
        size, sign, parts = heappop(queue)
        value = step(sign, tuple([values[part] for part in parts]))
        if value not in found:
            last = len(values)
            if last == most:
                raise TooLarge(f"there are more than {most} different ones")
            found[value] = True
            values.append(value)
            makings.append((sign, parts))
            sizes.append(size)
            for number in singles:
                heappush(queue, (1 + size, number, (last,)))
            for number in doubles:
                heappush(queue, (1 + size + size, number, (last, last)))
                for other in range(last):
                    heappush(queue, (1 + size + sizes[other], number, (last, other)))
                    heappush(queue, (1 + size + sizes[other], number, (other, last)))
    return values, makings


def rows_with(last, arity):
    """Return the tuples of so many numbers from 0 to `last` in which `last` stands."""
    if arity == 0:
        return []
    if arity == 1:
        return [(last,)]
    rows = [(last, other) for other in range(last + 1)]
    rows.extend([(other, last) for other in range(last)])
    return rows


class Candidates:
    """Trees over those that were kept so far, one after another, in the order of trees.

    Trees are told as by `least_makings`. Only those that are kept can be
    parts of others.
    """

    def __init__(self, signs):
        self.signs = signs
        self.makings = []
        self.sizes = []
        self.queue = [(1, sign, ()) for sign, (_, arity) in enumerate(signs) if arity == 0]

    def are_left(self):
        """Return True if there is a tree that was not taken."""
        return bool(self.queue)

    def take(self):
        """Return the size of the next tree, the number of its sign, and the indexes of its parts."""
        return heappop(self.queue)

    def keep(self, size, sign, parts):
        """Keep the tree that was taken last."""
        self.makings.append((sign, parts))
        self.sizes.append(size)
        for number, (_, arity) in enumerate(self.signs):
            for row in rows_with(len(self.sizes) - 1, arity):
                heappush(self.queue, (1 + sum([self.sizes[part] for part in row]), number, row))

    def tree(self, sign, parts):
        """Return the tree of a sign over trees that were kept."""
        return trees_made(self.signs, [*self.makings, (sign, parts)])[-1]


def sizes_of(makings):
    """Return the list of the sizes of trees that are made so."""
    sizes = []
    for _, parts in makings:
        sizes.append(1 + sum([sizes[part] for part in parts]))
    return sizes


def trees_made(signs, makings):
    """Return the list of the trees that are made so."""
    trees = []
    for sign, parts in makings:
        trees.append((signs[sign][0], *[trees[part] for part in parts]))
    return trees


def tree_made(signs, makings, number):
    """Return one of the trees that are made so; raise TooLarge if its size is above 400."""
    if sizes_of(makings)[number] > MAX_TREE:
        raise TooLarge("the least tree has a size above 400")
    return trees_made(signs, makings[:number + 1])[number]


def needed_for(makings, last):
    """Return the ascending list of the indexes of the trees that stand within a tree, and of itself."""
    needed = {last: True}
    for index in range(last, -1, -1):
        if index in needed:
            for part in makings[index][1]:
                needed[part] = True
    return sorted(needed)


def steps_to(signs, makings, last):
    """Return the steps that make a tree, each tree within it once."""
    places = {index: place for place, index in enumerate(needed_for(makings, last))}
    steps = []
    for index in places:
        sign, parts = makings[index]
        steps.append((signs[sign][0], tuple([places[part] for part in parts])))
    return tuple(steps)
