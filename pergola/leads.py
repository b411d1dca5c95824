"""How surroundings lead from state to state of a picker, step by step from the name up."""

from pergola.contexts import NAMES
from pergola.graphs import shortest_way
from pergola.growths import Growths
from pergola.least import Candidates, trees_made
from pergola.terms import fold
from pergola.ways import counts_over


def lead_over(many, entry, parts):
    """Return what a sign with this entry makes of its parts: counts, or a lead if one of the parts is a lead.

    A lead is a tuple that has for each state a list: the numbers of ways in
    which a surrounding leads from it to each state. Counts are a list.
    """
    for at, part in enumerate(parts):
        if isinstance(part, tuple):
            return tuple([counts_over(many, entry, [*parts[:at], row, *parts[at + 1:]]) for row in part])
    return counts_over(many, entry, parts)


def same_lead(many):
    """Return the lead of a name alone."""
    return tuple([[1 if state == other else 0 for other in range(many)] for state in range(many)])


def lead_of(signs, picker, surrounding):
    """Return the lead of a surrounding."""
    many, moves, _ = picker
    entries = {sign: entry for (sign, _), entry in zip(signs, moves)}
    return fold(surrounding, lambda name: same_lead(many), lambda sign, parts: lead_over(many, entries[sign], parts))


class Leads:
    """The steps of surroundings, and the useful states that they lead to one another.

    A *step* is the number of a sign, the index of the part to be filled, and
    the trees beside it. Some trees are enough for these, and are *kept*, in
    order: those with ways to other states than all before, and those with
    two ways to a state to which none before had two. Numbers of ways above
    2 stand as 2.
    """

    def __init__(self, signs, picker):
        self.signs = signs
        self.picker = picker
        self.trees = Candidates(signs)
        self.kept_counts = []
        self.keep_trees()
        self.leads_known = {}
        self.find_leads()
        self.useful = self.useful_states()
        moves = [(0, self.useful_lead(lead), step) for lead, step in self.leads_known.items()]
        self.growths = Growths([(0, state) for state in self.useful], [moves])

    def keep_trees(self):
        """Find the trees that are kept."""
        many, moves, _ = self.picker
        seen = {}
        doubled = {}
        while self.trees.are_left():
            size, sign, parts = self.trees.take()
            told = counts_over(many, moves[sign], [self.kept_counts[part] for part in parts])
            counts = [min(count, 2) for count in told]
            reached = tuple([min(count, 1) for count in counts])
            fresh = [state for state, count in enumerate(counts) if count == 2 and state not in doubled]
            if fresh or reached not in seen:
                seen[reached] = True
                for state in fresh:
                    doubled[state] = True
                self.trees.keep(size, sign, parts)
                self.kept_counts.append(counts)

    def find_leads(self):
        """Find the leads of all steps over trees that are kept, each with its first step."""
        many, moves, _ = self.picker
        hole = same_lead(many)
        for sign, (_, arity) in enumerate(self.signs):
            for at in range(arity):
                if arity == 1:
                    self.note_lead(lead_over(many, moves[sign], [hole]), (sign, at, []))
                else:
                    for tree, counts in enumerate(self.kept_counts):
                        parts = [hole, counts] if at == 0 else [counts, hole]
                        self.note_lead(lead_over(many, moves[sign], parts), (sign, at, [tree]))

    def note_lead(self, lead, step):
        """Note a lead with its step, if it has none yet."""
        self.leads_known.setdefault(tuple([tuple([min(count, 2) for count in row]) for row in lead]), step)

    def useful_states(self):
        """Return the ascending list of the useful states."""
        many, _, goods = self.picker
        reached = [state for state in range(many) if any([counts[state] for counts in self.kept_counts])]
        useful = []
        found = [state for state in reached if state in goods]
        while len(found) > len(useful):
            useful = found
            found = [state for state in reached if state in useful or state in goods or self.leads_into(state, useful)]
        return useful

    def leads_into(self, state, others):
        """Return True if a step leads from a state to one of some others."""
        return any([any([lead[state][other] for other in others]) for lead in self.leads_known])

    def useful_lead(self, lead):
        """Return a lead with 0 from and to all states that are not useful."""
        many = len(lead)
        every = list(range(many))
        return tuple([tuple([self.count_between(lead, state, other) for other in every]) for state in every])

    def count_between(self, lead, state, other):
        """Return in how many ways a lead goes between two states, if both are useful."""
        return lead[state][other] if state in self.useful and other in self.useful else 0

    def way_to_good(self, state):
        """Return the steps of a shortest way from a useful state to a good one."""
        goods = [(0, good) for good in self.picker[2] if good in self.useful]
        ways = [shortest_way([(0, state)], good, self.growths.steps_after) for good in goods]
        return sorted([way for way in ways if way is not None], key=len)[0]

    def tree_to(self, state):
        """Return the first tree that is kept and has a way to a useful state."""
        first = [at for at, counts in enumerate(self.kept_counts) if counts[state]][0]
        return self.kept_trees()[first]

    def kept_trees(self):
        """Return the list of the trees that are kept."""
        return trees_made(self.signs, self.trees.makings)

    def surrounding(self, steps):
        """Return the surrounding of some steps, from the name up."""
        words = [sign for sign, _ in self.signs]
        trees = self.kept_trees()
        surrounding = [name for name in NAMES if name not in words][0]
        for sign, at, others in steps:
            parts = [trees[tree] for tree in others]
            surrounding = (words[sign], *parts[:at], surrounding, *parts[at:])
        return surrounding

    def powers(self):
        """Return a dict with the powers of the useful states; there is no doubling."""
        rises = [(one, other) for _, one, other in self.growths.rises()]
        powers = {state: 0 for state in self.useful}
        before = {}
        while before != powers:
            before = {state: power for state, power in powers.items()}
            for one, other in rises:
                powers[other] = max(powers[other], powers[one] + 1)
            for entry, (_, arity) in zip(self.picker[1], self.signs):
                raise_powers(powers, entry, arity, 0)
        return powers


def raise_powers(powers, entry, arity, power):
    """Raise the powers of states to the sums of those of the useful states of rows that lead to them.

    `power` is the sum so far, of the parts that are told already.
    """
    if arity == 0:
        for state in entry:
            if state in powers:
                powers[state] = max(powers[state], power)
    else:
        for state in list(powers):
            raise_powers(powers, entry[state], arity - 1, power + powers[state])
