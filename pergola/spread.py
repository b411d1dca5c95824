"""How the numbers of ways of trees grow, and papers of either side."""

from pergola.errors import BadPaper, Missing
from pergola.leads import Leads, lead_of
from pergola.least import least_makings
from pergola.powers import first_beyond
from pergola.samples import is_surrounding
from pergola.table import is_ascending, tuples_of
from pergola.ways import Ways, counts_over, good_ways

MAX_MET = 200


def led(signs, picker, surrounding):
    """Return for each state the tuple of the numbers of ways in which a surrounding leads from it to each state."""
    return tuple([tuple(row) for row in lead_of(signs, picker, surrounding)])


def useful_states(signs, picker):
    """Return the ascending tuple of the useful states."""
    return tuple(Leads(signs, picker).useful)


def spread(signs, picker):
    """Return how the numbers of ways grow: a word, and the greatest number, the power, or 0."""
    leads = Leads(signs, picker)
    if leads.growths.doubling() is not None:
        return "beyond", 0
    if leads.growths.rises():
        powers = leads.powers()
        return "power", max([power for state, power in powers.items() if state in picker[2]])
    return "none", max([good_ways(picker, counts) for counts in counts_met(leads)])


def counts_met(leads):
    """Return the list of the counts of all trees, with 0 for states that are not useful, if there is no growth."""
    return least_makings(leads.signs, lambda sign, parts: useful_counts(leads, sign, parts), MAX_MET)[0]


def useful_counts(leads, sign, parts):
    """Return the tuple of the counts of a sign over parts with these counts, with 0 for states that are not useful."""
    many, moves, _ = leads.picker
    counts = counts_over(many, moves[sign], parts)
    return tuple([count if state in leads.useful else 0 for state, count in enumerate(counts)])


def spread_paper(signs, picker):
    """Return a right paper that the numbers of ways have no greatest one."""
    leads = Leads(signs, picker)
    doubling = leads.growths.doubling()
    rising = leads.growths.rising() if doubling is None else None
    if doubling is not None:
        (_, one), inner = doubling
        other = one
    elif rising is not None:
        (_, one), (_, other), inner = rising
    else:
        raise Missing("the numbers of ways have a greatest one")
    outer = leads.way_to_good(other)
    return one, other, leads.tree_to(one), leads.surrounding(inner), leads.surrounding(outer)


def judge_spread(signs, picker, paper):
    """Raise BadPaper if two states, a tree and two values are not a right paper that there is no greatest number."""
    leads_for_paper(signs, picker, paper)


def leads_for_paper(signs, picker, paper):
    """Return the counts and leads of the tree and surroundings of a paper; raise BadPaper if it is not right."""
    one, other, tree, inner, outer = paper
    many, _, goods = picker
    if not 0 <= one < many or not 0 <= other < many:
        raise BadPaper("there must be two states")
    if not is_surrounding(signs, inner) or not is_surrounding(signs, outer):
        raise BadPaper("there must be two surroundings")
    ways = Ways(signs, picker, tree)
    counts = ways.counted[ways.root]
    inside = lead_of(signs, picker, inner)
    outside = lead_of(signs, picker, outer)
    if not counts[one] or not good_ways(picker, outside[other]):
        raise BadPaper("there must be a way of the tree to the first state, and one from the second to a good state")
    if not inside[one][one] or not inside[one][other] or not inside[other][other]:
        raise BadPaper("the inner surrounding does not lead as it should")
    if one == other and inside[one][one] < 2:
        raise BadPaper("the inner surrounding leads back in one way alone")
    return counts, inside, [sum([row[good] for good in goods]) for row in outside]


def times_for(signs, picker, paper, most):
    """Return how often the inner surrounding of a paper must be put in for more than so many ways."""
    counts, inside, ends = leads_for_paper(signs, picker, paper)
    return first_beyond(counts, inside, ends, most)


def bound_paper(signs, picker):
    """Return the first bound."""
    leads = Leads(signs, picker)
    if leads.growths.doubling() is not None or leads.growths.rises():
        raise Missing("the numbers of ways have no greatest one")
    return tuple(sorted(counts_met(leads)))


def judge_bound(signs, picker, number, paper):
    """Raise BadPaper if a tuple of tuples is not a right bound for a number."""
    leads = Leads(signs, picker)
    many, _, _ = picker
    for counts in paper:
        if len(counts) != many or min(counts) < 0:
            raise BadPaper("there must be an integer of at least 0 for each state")
        if any([count for state, count in enumerate(counts) if state not in leads.useful]):
            raise BadPaper("there must be 0 for each state that is not useful")
        if good_ways(picker, counts) > number:
            raise BadPaper("there may be more ways")
    if not is_ascending(paper):
        raise BadPaper("the tuples must be different, and ascend")
    present = {counts: True for counts in paper}
    for sign, (_, arity) in enumerate(signs):
        for parts in tuples_of(paper, arity):
            if useful_counts(leads, sign, parts) not in present:
                raise BadPaper("counts that follow are left out")
