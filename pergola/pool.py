"""Pools of trees, in which equal trees have the same number."""

from pergola.bodies import sign_numbers


class Pool:
    """Trees over some signs, numbered from 0 on, each of them behind its parts.

    Each one is told by the number of its sign and the tuple of the numbers of
    its parts. Trees may be of any size.
    """

    def __init__(self, signs):
        self.places = sign_numbers(signs)
        self.words = [sign for sign, _ in signs]
        self.numbers = {}
        self.makings = []
        self.sizes = []
        self.made = []

    def number_for(self, tree):
        """Return the number of a tree; all trees within it get numbers, too."""
        nodes = []
        waiting = [tree]
        while waiting:
            node = waiting.pop()
            nodes.append(node)
            waiting.extend(node[1:])
        # Trees may be nested deeper than calls should be. In this order the
        # parts of a tree are the last ones that were done, when it comes.
        done = []
        for node in reversed(nodes):
            parts = ()
            if len(node) == 2:
                parts = (done.pop(),)
            elif len(node) == 3:
                second = done.pop()
                parts = (done.pop(), second)
            done.append(self.number_over(self.places[node[0]], parts))
        return done[0]

    def number_over(self, sign, parts):
        """Return the number of the tree of a sign, told by its number, over a tuple of numbers of trees."""
        key = (sign, parts)
        if key not in self.numbers:
            self.numbers[key] = len(self.makings)
            self.makings.append(key)
            self.sizes.append(1 + sum([self.sizes[part] for part in parts]))
        return self.numbers[key]

    def tree(self, number):
        """Return the tree with a number."""
        missing = self.makings[len(self.made):number + 1]
        for sign, parts in missing:
            self.made.append((self.words[sign], *[self.made[part] for part in parts]))
        return self.made[number]

    def in_order(self):
        """Return the list of the numbers of all trees, in the order of trees."""
        many = len(self.sizes)
        by_size = {}
        for number, size in enumerate(self.sizes):
            by_size.setdefault(size, []).append(number)
        ranks = [0] * many
        order = []
        for size in sorted(by_size):
            # The parts are lesser trees, so their ranks are known. One
            # integer for the sign, these ranks and the number is quickly sorted.
            keys = []
            for number in by_size[size]:
                sign, parts = self.makings[number]
                first = ranks[parts[0]] if parts else 0
                second = ranks[parts[1]] if len(parts) == 2 else 0
                keys.append(((sign * many + first) * many + second) * many + number)
            for key in sorted(keys):
                number = key - key // many * many
                ranks[number] = len(order)
                order.append(number)
        return order


def told_over(makings, tell):
    """Return the list of what `tell(sign, parts)` tells of trees that are made so, from a list for their parts."""
    told = []
    for sign, parts in makings:
        told.append(tell(sign, [told[part] for part in parts]))
    return told
