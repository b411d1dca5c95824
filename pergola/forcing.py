"""Samples that force a reader, with papers of trees and surroundings."""

from pergola.contexts import context_of, number_in, surrounding_of
from pergola.errors import BadPaper, TooLarge
from pergola.least import least_makings
from pergola.pool import Pool, told_over
from pergola.readers import kinds_of, least_of
from pergola.table import entry_at, row_of, tuples_of

MAX_FORCED = 8


def judge_forcing(signs, reader, sample, paper):
    """Raise BadPaper if a pair of trees and surroundings is not a right paper that a sample forces a reader."""
    trees, surroundings = paper
    labelled = Labelled(signs, sample, surroundings)
    if not labelled.is_fit(reader):
        raise BadPaper("the reader does not fit the sample")
    numbers = [labelled.pool.number_for(tree) for tree in trees]
    if not numbers or not all([number in labelled.labels for number in numbers]):
        raise BadPaper("there must be trees of the sample")
    rows = [labelled.row(number) for number in numbers]
    for at, row in enumerate(rows):
        if not all([are_parted(row, other) for other in rows[:at]]):
            raise BadPaper("two trees are not parted")
    _, moves = reader
    states = [row_of(signs, moves, tree, {}) for tree in trees]
    kinds = kinds_of(signs, reader, states_of(signs, moves))
    for sign, (_, arity) in enumerate(signs):
        for places in tuples_of(list(range(len(trees))), arity):
            kind = kinds[entry_at(moves[sign], [states[place] for place in places])]
            alike = [kinds[state] == kind for state in states]
            if alike.count(True) != 1:
                raise BadPaper("a tree over these trees is not as good as just one of them")
            row = labelled.row(labelled.pool.number_over(sign, tuple([numbers[place] for place in places])))
            if not all([same or are_parted(row, other) for same, other in zip(alike, rows)]):
                raise BadPaper("a tree over these trees is not parted from another one of them")


def states_of(signs, moves):
    """Return the list of the states that trees have by moves."""
    return least_makings(signs, lambda sign, parts: entry_at(moves[sign], parts))[0]


def are_parted(row, other):
    """Return True if two rows of labels, or None, have other labels in some place."""
    return any([one != two and one is not None and two is not None for one, two in zip(row, other)])


class Labelled:
    """A sample and surroundings, in a pool of trees."""

    def __init__(self, signs, sample, surroundings):
        self.pool = Pool(signs)
        self.labels = {self.pool.number_for(tree): label for tree, label in sample}
        self.contexts = [context_of(self.pool, surrounding) for surrounding in surroundings]

    def is_fit(self, reader):
        """Return True if a reader tells of each tree of the sample the label that the sample has for it."""
        labels, moves = reader
        states = told_over(self.pool.makings, lambda sign, parts: entry_at(moves[sign], parts))
        return all([labels[states[number]] == label for number, label in self.labels.items()])

    def row(self, number):
        """Return the labels that the sample has for what the surroundings make of a tree, None where it has none."""
        return [self.labels.get(number_in(self.pool, context, number)) for context in self.contexts]


def forcing_of(signs, reader):
    """Return a sample and a right paper that it forces a reader."""
    least = least_of(signs, reader)
    labels, moves = least
    if len(labels) > MAX_FORCED:
        raise TooLarge("the least reader has more than 8 states")
    pool = Pool(signs)
    _, makings = least_makings(signs, lambda sign, parts: entry_at(moves[sign], parts))
    trees = []
    for sign, parts in makings:
        trees.append(pool.number_over(sign, tuple([trees[part] for part in parts])))
    contexts = contexts_that_part(signs, least, trees)
    asked = {}
    for sign, (_, arity) in enumerate(signs):
        for parts in tuples_of(trees, arity):
            number = pool.number_over(sign, parts)
            for context in contexts:
                asked[number_in(pool, context, number)] = True
    states = told_over(pool.makings, lambda sign, parts: entry_at(moves[sign], parts))
    sample = tuple([(pool.tree(number), labels[states[number]]) for number in asked])
    surroundings = tuple([surrounding_of(pool, context) for context in contexts])
    return sample, (tuple([pool.tree(number) for number in trees]), surroundings)


def contexts_that_part(signs, least, trees):
    """Return contexts that lead each two states of a least reader to other labels; the first one is a name alone.

    `trees` has for each state the number of a tree.
    """
    labels, moves = least
    steps = steps_over(signs, moves, trees)
    contexts = [()]
    # For each context the label to which it leads each state.
    rows = [labels]
    while many_columns(rows) < len(labels):
        for step, states in steps:
            pairs = list(zip(contexts, rows))
            for context, row in pairs:
                told = tuple([row[state] for state in states])
                if many_columns([*rows, told]) > many_columns(rows):
                    contexts.append((step, *context))
                    rows.append(told)
    return contexts


def many_columns(rows):
    """Return how many different columns rows of the same length have."""
    return len(set(list(zip(*rows))))


def steps_over(signs, moves, trees):
    """Return the list of the steps of contexts over trees of all states, with the states to which they lead."""
    states = list(range(len(trees)))
    steps = []
    for sign, (_, arity) in enumerate(signs):
        for at in range(arity):
            for beside in tuples_of(states, arity - 1):
                before, behind = beside[:at], beside[at:]
                step = (sign, tuple([trees[state] for state in before]), tuple([trees[state] for state in behind]))
                steps.append((step, [entry_at(moves[sign], (*before, state, *behind)) for state in states]))
    return steps
