"""How counts grow along steps: bounded, like a power, or beyond all powers.

A *node* is a pair of the number of a stand and a state. From each stand there
is a list of moves: the number of another stand, a tuple that has for each
state a tuple with the number of the calls of each state there, and a step.
"""

from pergola.graphs import Components, shortest_way


class Growths:
    """The nodes that are reached from some nodes by moves, and the ways between them on which counts grow."""

    def __init__(self, first_nodes, moves_from):
        self.first_nodes = first_nodes
        self.moves_from = moves_from
        # For each move, the states that are called, for each state.
        self.called = [[states_called(calls) for _, calls, _ in moves] for moves in moves_from]
        self.groups = Components(first_nodes, self.after)
        self.inside = [self.calls_inside(stand) for stand in range(len(moves_from))]

    def after(self, node):
        """Return the list of the next nodes of a node."""
        return list({other: True for _, other in self.steps_after(node)})

    def steps_after(self, node):
        """Return the list of the pairs of a step and the node to which it leads from a node."""
        stand, state = node
        found = []
        for (to, _, step), called in zip(self.moves_from[stand], self.called[stand]):
            found.extend([(step, (to, other)) for other in called[state]])
        return found

    def way_to(self, node):
        """Return the list of the steps of a shortest way to a node from one of the first nodes."""
        return shortest_way(self.first_nodes, node, self.steps_after)

    def calls_inside(self, stand):
        """Return for each move from a stand the states that are called by each state, if the nodes are of one group."""
        numbers = self.groups.numbers
        found = []
        for (to, _, _), called in zip(self.moves_from[stand], self.called[stand]):
            row = []
            for state, others in enumerate(called):
                # The state may be called nowhere at this stand.
                group = numbers.get((stand, state), -1)
                row.append([other for other in others if numbers.get((to, other)) == group])
            found.append(row)
        return found

    def doubling(self):
        """Return a node and a way on which it calls itself twice or more, or None."""
        tried = {}
        for node in self.groups.numbers:
            group = self.groups.numbers[node]
            if group not in tried:
                tried[group] = True
                # If one node of a group calls itself twice on some way, then all do.
                stand, state = node
                way = shortest_way([(stand, state, state, 0)], (stand, state, state, 1), self.pairs_after)
                if way is not None:
                    return node, way
        return None

    def pairs_after(self, pair):
        """Return the steps and next pairs of two nodes with the same stand, within the groups of the nodes.

        A pair has a stand, two states, and 1 if the ways of the two differ.
        """
        stand, one, other, split = pair
        found = []
        for (to, calls, step), inside in zip(self.moves_from[stand], self.inside[stand]):
            for low in inside[one]:
                for high in inside[other]:
                    twice = one == other and calls[one][low] > 1
                    found.append((step, (to, low, high, 1 if split or low != high or twice else 0)))
        return found

    def rises(self):
        """Return the list of the triples of a stand and two states, the first of which calls both again and again.

        On some way from the stand to itself the first state calls itself and
        the second one, and the second one itself. No node is called twice on
        a way to itself.
        """
        pairs = self.pairs_that_fall()
        # With arrows back these are just the triples whose first nodes lead
        # to the last ones: ways that go back put together make one that does not.
        triples = Components([(stand, one, one, other) for stand, one, other in pairs], self.triples_after)
        found = []
        for stand, one, other in pairs:
            goal = (stand, one, other, other)
            if goal in triples.numbers and triples.are_one((stand, one, one, other), goal):
                found.append((stand, one, other))
        return found

    def pairs_that_fall(self):
        """Return the list of the triples of a stand and two states so that the second one may be behind the first."""
        numbers = self.groups.numbers
        found = []
        for stand, one in numbers:
            for place, other in numbers:
                if place == stand and numbers[(stand, other)] < numbers[(stand, one)]:
                    found.append((stand, one, other))
        return found

    def triples_after(self, triple):
        """Return the list of the next triples of a stand and three states.

        The first and the last node stay in their groups; the one between
        them goes from the first to the last one.
        """
        found = [other for _, other in self.triple_steps(triple)]
        stand, one, between, other = triple
        if between == other:
            found.append((stand, one, one, other))
        return found

    def triple_steps(self, triple):
        """Return the steps and next triples of a stand and three states, without arrows back."""
        stand, one, between, other = triple
        numbers = self.groups.numbers
        lowest = numbers[(stand, other)]
        found = []
        for (to, _, step), called, inside in zip(self.moves_from[stand], self.called[stand], self.inside[stand]):
            highs = inside[other]
            if inside[one] and highs:
                middles = [state for state in called[between] if numbers[(to, state)] >= lowest]
                found.extend([(step, (to, low, mid, high)) for low in inside[one] for mid in middles for high in highs])
        return found

    def rising(self):
        """Return two nodes and a way on which the first one calls both and the second one itself, or None."""
        for stand, one, other in self.rises():
            way = shortest_way([(stand, one, one, other)], (stand, one, other, other), self.triple_steps)
            return (stand, one), (stand, other), way
        return None

    def power(self):
        """Return the power like which the counts grow, and 0 if they are bounded; no node is doubled."""
        rises = {}
        for stand, one, other in self.rises():
            rises.setdefault((stand, one), []).append((stand, other))
        members = [[] for _ in range(self.groups.many)]
        for node, group in self.groups.numbers.items():
            members[group].append(node)
        powers = [0] * self.groups.many
        # Arrows lead to lesser groups.
        for group in range(self.groups.many - 1, -1, -1):
            for node in members[group]:
                for other in self.after(node):
                    lower = self.groups.numbers[other]
                    powers[lower] = max(powers[lower], powers[group])
                for other in rises.get(node, []):
                    lower = self.groups.numbers[other]
                    powers[lower] = max(powers[lower], powers[group] + 1)
        return max(powers, default=0)


def states_called(calls):
    """Return the list of the lists of the states that are called, for each state."""
    return [[state for state, many in enumerate(row) if many] for row in calls]
