"""Arrows between nodes: what is reached, by which way, and which nodes reach one another.

Nodes are integers or flat tuples. The arrows of a node are told by a function
that returns a list.
"""


def shortest_way(starts, goal, after):
    """Return the list of the steps of a shortest way from one of some nodes to another one, None if there is none.

    `after` tells the pairs of a step and the node to which it leads.
    """
    behind = {start: None for start in starts}
    order = list(behind)
    at = 0
    while at < len(order) and goal not in behind:
        here = order[at]
        for step, node in after(here):
            if node not in behind:
                behind[node] = (step, here)
                order.append(node)
        at += 1
    if goal not in behind:
        return None
    steps = []
    while behind[goal] is not None:
        step, goal = behind[goal]
        steps.append(step)
    return steps[::-1]


class Components:
    """The nodes that are reached from some nodes, with equal numbers exactly for those that reach one another.

    Arrows lead to nodes with equal or lesser numbers. `after` tells the next
    nodes.
    """

    def __init__(self, starts, after):
        self.next_nodes = after
        self.numbers = {}
        self.many = 0
        self.lows = {}
        self.path = []
        for start in starts:
            if start not in self.lows:
                self.visit(start)

    def visit(self, start):
        """Go through all nodes that are reached from a node, as far as they are new."""
        frames = [self.enter(start)]
        while frames:
            node, waiting, low = frames[-1]
            if waiting:
                other = waiting.pop()
                if other not in self.lows:
                    frames.append(self.enter(other))
                elif other not in self.numbers:
                    self.lows[node] = min(self.lows[node], self.lows[other])
            else:
                frames.pop()
                if frames:
                    above = frames[-1][0]
                    self.lows[above] = min(self.lows[above], self.lows[node])
                if self.lows[node] == low:
                    self.close(node)

    def enter(self, node):
        """Put a new node on the path; return it with its next nodes and its place."""
        low = len(self.lows)
        self.lows[node] = low
        self.path.append(node)
        after = self.next_nodes
        return node, after(node), low

    def close(self, first):
        """Give the next number to a node and all those behind it on the path."""
        node = self.path.pop()
        self.numbers[node] = self.many
        while node != first:
            node = self.path.pop()
            self.numbers[node] = self.many
        self.many += 1

    def are_one(self, first, second):
        """Return True if two of the nodes reach one another."""
        return self.numbers[first] == self.numbers[second]
