"""The ways in which a picker takes a tree, and how many they are."""

from pergola.least import least_makings
from pergola.pool import Pool, told_over


def counts_over(many, entry, parts):
    """Return the list of the counts, for so many states, of a sign with this entry over parts with these counts."""
    found = [0] * many
    if not parts:
        for state in entry:
            found[state] = 1
    elif len(parts) == 1:
        for first, line in zip(parts[0], entry):
            if first:
                for state in line:
                    found[state] += first
    else:
        for first, lines in zip(parts[0], entry):
            if first:
                add_products(found, first, parts[1], lines)
    return found


def add_products(found, first, seconds, lines):
    """Add the products of a count of the first part with all counts of the second one."""
    for second, line in zip(seconds, lines):
        if second:
            for state in line:
                found[state] += first * second


def good_ways(picker, counts):
    """Return how many ways to good states there are, by the counts of all states."""
    return sum([counts[state] for state in picker[2]])


class Capped:
    """The capped counts of trees, for a picker and a number."""

    def __init__(self, signs, picker, cap):
        self.signs = signs
        self.picker = picker
        self.cap = cap

    def over(self, sign, parts):
        """Return the capped counts of the sign with this number over parts with these capped counts."""
        many, moves, _ = self.picker
        return tuple([min(count, self.cap) for count in counts_over(many, moves[sign], parts)])

    def all_counts(self, most):
        """Return the capped counts that trees have, and how their least trees are made; TooLarge beyond `most`."""
        return least_makings(self.signs, self.over, most)


class Ways:
    """The ways of a tree: for each tree within it, its counts. Trees are told by their numbers in a pool."""

    def __init__(self, signs, picker, tree):
        self.many, self.moves, self.goods = picker
        pool = Pool(signs)
        self.root = pool.number_for(tree)
        self.makings = pool.makings
        self.counted = told_over(pool.makings, lambda sign, parts: counts_over(self.many, self.moves[sign], parts))

    def total(self):
        """Return the number of the ways."""
        return sum([self.counted[self.root][state] for state in self.goods])

    def lines(self, node, state, first):
        """Return the list that has for each state of the second part the ways to it, with this one of the first part.

        A state from which the sign does not lead to the state of the whole
        counts as one to which there is no way.
        """
        sign, parts = self.makings[node]
        entry = self.moves[sign][first]
        if len(parts) == 1:
            return [1] if state in entry else [0]
        return [count if state in line else 0 for count, line in zip(self.counted[parts[1]], entry)]

    def way(self, number):
        """Return the way with a number."""
        for state in self.goods:
            if number < self.counted[self.root][state]:
                break
            number -= self.counted[self.root][state]
        return self.way_to(self.root, state, number)

    def way_to(self, node, state, number):
        """Return the way with a number among those of a tree to a state."""
        _, parts = self.makings[node]
        if not parts:
            return (state,)
        for first, count in enumerate(self.counted[parts[0]]):
            lines = self.lines(node, state, first)
            if number < count * sum(lines):
                break
            number -= count * sum(lines)
        place, number = divmod(number, sum(lines))
        way = (state, self.way_to(parts[0], first, place))
        if len(parts) == 1:
            return way
        for second, count in enumerate(lines):
            if number < count:
                break
            number -= count
        return (*way, self.way_to(parts[1], second, number))

    def is_way(self, node, value):
        """Return True if a value is a way of a tree."""
        sign, parts = self.makings[node]
        if not isinstance(value, tuple) or len(value) != len(parts) + 1 or not isinstance(value[0], int):
            return False
        if not all([self.is_way(part, way) for part, way in zip(parts, value[1:])]):
            return False
        entry = self.moves[sign]
        for way in value[1:]:
            entry = entry[way[0]]
        return value[0] in entry

    def find_number(self, way):
        """Return the number of a way."""
        before = [self.counted[self.root][state] for state in self.goods if state < way[0]]
        return sum(before) + self.number_to(self.root, way)

    def number_to(self, node, way):
        """Return the number of a way among those of a tree to its state."""
        _, parts = self.makings[node]
        if not parts:
            return 0
        state, first = way[0], way[1][0]
        number = 0
        for other in range(first):
            number += self.counted[parts[0]][other] * sum(self.lines(node, state, other))
        lines = self.lines(node, state, first)
        number += self.number_to(parts[0], way[1]) * sum(lines)
        if len(parts) == 2:
            second = way[2][0]
            number += sum(lines[:second]) + self.number_to(parts[1], way[2])
        return number

    def every_way(self):
        """Return the list of all ways, in order."""
        needed = self.states_needed()
        found = [{} for _ in self.makings]
        for node in range(len(self.makings)):
            for state in needed[node]:
                found[node][state] = self.ways_to(node, state, found)
        return [way for state in self.goods for way in found[self.root].get(state, [])]

    def states_needed(self):
        """Return for each tree, as a dict, the states to which its ways are parts of ways of the whole."""
        needed = [{} for _ in self.makings]
        needed[self.root] = {state: True for state in self.goods if self.counted[self.root][state]}
        for node in range(self.root, -1, -1):
            _, parts = self.makings[node]
            for state in list(needed[node]):
                for states in self.rows_to(node, state):
                    for part, inner in zip(parts, states):
                        needed[part][inner] = True
        return needed

    def rows_to(self, node, state):
        """Return the list of the tuples of states of the parts, with ways to them, from which a state is reached."""
        _, parts = self.makings[node]
        if not parts:
            return []
        rows = []
        for first, count in enumerate(self.counted[parts[0]]):
            if count:
                lines = self.lines(node, state, first)
                rows.extend([(first, second)[:len(parts)] for second, many in enumerate(lines) if many])
        return rows

    def ways_to(self, node, state, found):
        """Return the list of all ways of a tree to a state; `found` has those of its parts."""
        _, parts = self.makings[node]
        if not parts:
            return [(state,)]
        ways = []
        rows = self.rows_to(node, state)
        for first in sorted(set([row[0] for row in rows])):
            behind = [row[1:] for row in rows if row[0] == first]
            if len(parts) == 1:
                ends = [()]
            else:
                ends = [(way,) for (second,) in behind for way in found[parts[1]][second]]
            ways.extend([(state, way, *end) for way in found[parts[0]][first] for end in ends])
        return ways
