"""What a learner knows of an unknown reader, and what it asks next."""

from pergola.contexts import grown, number_in
from pergola.errors import TooLarge
from pergola.least import rows_with
from pergola.pool import told_over
from pergola.table import entry_at, moves_over


class Study:
    """What is known of an unknown reader, by answers about the trees of a pool.

    *Roots* are trees that no reader that fits the answers can take for one
    another. A *branch* is a sign over roots; the roots are branches, too.
    The *row* of a branch has the labels of what the contexts make of it. No
    two roots have the same row. If each branch has the row of a root, this
    tells a reader. If it does not fit the answers, there is a *chase* of a
    tree with another label, which ends with one more context.
    """

    def __init__(self, signs, pool, most):
        self.signs = signs
        self.pool = pool
        self.most = most
        self.known = {}
        self.roots = []
        self.contexts = [()]
        self.branch_rows = {}
        self.homes = {}
        self.unfinished = []
        self.chase = None
        leaves = [sign for sign, (_, arity) in enumerate(signs) if arity == 0]
        self.add_root(pool.number_over(leaves[0], ()))

    def twin(self):
        """Return a study that knows the same, and can go on by itself."""
        other = Study(self.signs, self.pool, self.most)
        other.known = dict(self.known)
        other.roots = list(self.roots)
        other.contexts = list(self.contexts)
        other.branch_rows = {branch: list(row) for branch, row in self.branch_rows.items()}
        other.homes = dict(self.homes)
        other.unfinished = list(self.unfinished)
        other.chase = self.chase
        return other

    def next_tree(self):
        """Return the number of the tree to ask for next, and -1 if there is a reader that fits.

        Raises TooLarge if there would be too many roots.
        """
        while True:
            asked = self.fill_rows() if self.chase is None else self.go_on_chasing()
            if asked >= 0:
                return asked
            if self.chase is None and not self.unfinished:
                misfit = self.first_misfit()
                if misfit < 0:
                    return -1
                self.begin_chase(misfit)

    def fill_rows(self):
        """Find the homes of branches; return the number of a tree for which this must be asked, and -1 at the end."""
        while self.unfinished:
            branch = self.unfinished[-1]
            row = self.branch_rows[branch]
            while len(row) < len(self.contexts):
                number = number_in(self.pool, self.contexts[len(row)], branch)
                if number not in self.known:
                    return number
                row.append(self.known[number])
            self.unfinished.pop()
            self.find_home(branch)
        return -1

    def find_home(self, branch):
        """Note which root has the row of a branch; if there is none, the branch becomes a root."""
        row = self.branch_rows[branch]
        rows = [self.branch_rows[root] for root in self.roots]
        if row in rows:
            self.homes[branch] = rows.index(row)
        else:
            self.add_root(branch)

    def add_root(self, branch):
        """Make a branch a root, and find the branches over it."""
        self.check_room()
        self.homes[branch] = len(self.roots)
        self.roots.append(branch)
        for sign, (_, arity) in enumerate(self.signs):
            for places in rows_with(len(self.roots) - 1, arity) if arity else [()]:
                other = self.pool.number_over(sign, tuple([self.roots[place] for place in places]))
                if other not in self.branch_rows:
                    self.branch_rows[other] = []
                    self.unfinished.append(other)
        self.unfinished = self.last_first(self.unfinished)

    def last_first(self, branches):
        """Return the list of some branches, the smallest ones at the end, so that roots are small."""
        rows = [(self.pool.sizes[branch], branch) for branch in branches]
        return [branch for _, branch in sorted(rows, reverse=True)]

    def check_room(self):
        """Raise TooLarge if there must be no more roots."""
        if len(self.roots) == self.most:
            raise TooLarge("each reader that fits has too many states")

    def add_context(self, context):
        """Add a context that parts a branch from its home."""
        self.check_room()
        self.contexts.append(context)
        others = [branch for branch in self.branch_rows if branch not in self.roots]
        # The rows of the roots are needed first, to find homes.
        self.unfinished = [*self.last_first(others), *self.last_first(self.roots)]

    def reader_told(self):
        """Return the reader that the homes tell, with a state for each root."""
        labels = tuple([self.branch_rows[root][0] for root in self.roots])
        numbers = self.pool.numbers
        return labels, moves_over(self.signs, self.roots, lambda sign, parts: self.homes[numbers[(sign, parts)]])

    def states_told(self):
        """Return the list of the states of all trees of the pool by this reader."""
        _, moves = self.reader_told()
        return told_over(self.pool.makings, lambda sign, parts: entry_at(moves[sign], parts))

    def first_misfit(self):
        """Return the number of the smallest tree that is known to have another label than this reader tells, or -1."""
        labels, _ = self.reader_told()
        states = self.states_told()
        misfits = [number for number, label in self.known.items() if labels[states[number]] != label]
        ordered = sorted([(self.pool.sizes[number], number) for number in misfits])
        return ordered[0][1] if ordered else -1

    def begin_chase(self, number):
        """Begin to chase a tree of which the reader does not tell the label that is known."""
        labels, _ = self.reader_told()
        states = self.states_told()
        nodes = self.nodes_of_tree(number)
        homes = [self.roots[states[node]] for node in nodes]
        # Of the trees in which so many of the nodes have become their homes,
        # the first one has the label that is known, the last one the other one.
        self.chase = (nodes, homes, 0, len(nodes), labels[states[number]])

    def nodes_of_tree(self, number):
        """Return the list of the numbers of all nodes of a tree, each behind its parts."""
        nodes = []
        waiting = [number]
        while waiting:
            node = waiting.pop()
            nodes.append(node)
            waiting.extend(self.pool.makings[node][1])
        return nodes[::-1]

    def go_on_chasing(self):
        """Return the number of a tree for which must be asked; at the end add a context and return -1."""
        nodes, homes, low, high, goal = self.chase
        while high - low > 1:
            middle = (low + high) // 2
            number = self.rebuilt(nodes, homes, middle, -1)
            if number not in self.known:
                self.chase = (nodes, homes, low, high, goal)
                return number
            if self.known[number] == goal:
                high = middle
            else:
                low = middle
        self.chase = None
        self.add_context(tuple(self.rebuilt(nodes, homes, low, low)))
        return -1

    def rebuilt(self, nodes, homes, many, hole):
        """Return the number of a tree in which its first so many nodes have become their homes.

        If one of the nodes is the hole, the context around it is returned.
        """
        done = []
        for at, node in enumerate(nodes):
            sign, inner = self.pool.makings[node]
            parts = [done.pop() for _ in inner][::-1]
            if at == hole:
                done.append([])
            elif at < many:
                done.append(homes[at])
            else:
                done.append(grown(self.pool, sign, parts))
        return done[0]
