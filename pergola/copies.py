"""How often parts are copied by a turner, and papers of either side."""

from pergola.errors import BadPaper, Missing, TooLarge
from pergola.growths import Growths
from pergola.steps import Steps, counts_along, counts_from
from pergola.table import is_ascending

MAX_COUNTS = 2000


def growth(turner):
    """Return how the copies grow: a word, and the greatest copies, the power, or 0."""
    steps = Steps(turner)
    growths = growths_of(steps)
    if growths.doubling() is not None:
        return "beyond", 0
    power = growths.power()
    if power:
        return "power", power
    return "bounded", max([sum(counts) for _, counts in pairs_met(steps)], default=0)


def growths_of(steps):
    """Return how the counts grow along steps, from those where the state 0 turns trees."""
    return Growths([(stand, 0) for stand in steps.starts], steps.moves_from)


def growth_paper(turner):
    """Return a right growth paper."""
    growths = growths_of(Steps(turner))
    doubling = growths.doubling()
    if doubling is not None:
        node, inner = doubling
        return node[1], node[1], tuple(growths.way_to(node)), tuple(inner)
    rising = growths.rising()
    if rising is None:
        raise Missing("the copies are bounded")
    node, other, inner = rising
    return node[1], other[1], tuple(growths.way_to(node)), tuple(inner)


def count_paper(turner):
    """Return the count paper of a turner whose copies are bounded."""
    steps = Steps(turner)
    growths = growths_of(steps)
    if growths.doubling() is not None or growths.power():
        raise Missing("the copies are not bounded")
    return tuple(sorted(pairs_met(steps)))


def first_pairs(steps):
    """Return the list of the pairs with which counts begin."""
    counts = counts_from(0, len(steps.all_sides))
    return [(stand, counts) for stand in steps.starts]


def pairs_behind(steps, pair):
    """Return the list of the pairs that come of a pair along the steps from its stand."""
    stand, counts = pair
    return [(to, counts_along(counts, calls)) for to, calls, _ in steps.moves_from[stand]]


def pairs_met(steps):
    """Return the list of the pairs that are met, if the copies are bounded."""
    met = {pair: True for pair in first_pairs(steps)}
    order = list(met)
    at = 0
    while at < len(order):
        here = order[at]
        for pair in pairs_behind(steps, here):
            if pair not in met:
                met[pair] = True
                order.append(pair)
                if len(order) > MAX_COUNTS:
                    raise TooLarge("more than 2000 pairs are met")
        at += 1
    return order


def judge_counts(turner, number, paper):
    """Raise BadPaper if a tuple of pairs is not a right paper that no copies exceed a number."""
    steps = Steps(turner)
    for stand, counts in paper:
        if not 0 <= stand < len(steps.stands) or len(counts) != len(steps.all_sides) or min(counts) < 0:
            raise BadPaper("a pair must have a stand, and an integer of at least 0 for each state")
        if sum(counts) > number:
            raise BadPaper("the copies exceed the number")
    if not is_ascending(paper):
        raise BadPaper("the pairs must be different, and ascend")
    present = {pair: True for pair in paper}
    if not all([pair in present for pair in first_pairs(steps)]):
        raise BadPaper("a pair with which counts begin is left out")
    for pair in paper:
        if not all([other in present for other in pairs_behind(steps, pair)]):
            raise BadPaper("a pair that comes of another one is left out")


def judge_growth(turner, paper):
    """Raise BadPaper if a tuple of two integers and two tuples of triples is not a right growth paper."""
    steps = Steps(turner)
    one, other, outer, inner = paper
    states = len(steps.all_sides)
    if not 0 <= one < states or not 0 <= other < states:
        raise BadPaper("there must be two states")
    if not all([steps.is_step(step) for step in (*outer, *inner)]):
        raise BadPaper("there must be two ways")
    if not inner:
        raise BadPaper("the inner way is empty")
    stand = steps.move_of(inner[0])[0]
    first = steps.move_of(outer[0])[0] if outer else stand
    if first not in steps.starts:
        raise BadPaper("the state 0 does not turn the trees of the first stand")
    if along(steps, first, outer, counts_from(0, states), stand)[one] < 1:
        raise BadPaper("the outer way does not lead to the first state")
    counts = along(steps, stand, inner, counts_from(one, states), stand)
    if one == other:
        if counts[one] < 2:
            raise BadPaper("the state does not come to 2")
    elif min(counts[one], counts[other]) < 1:
        raise BadPaper("the first state does not come to both")
    elif along(steps, stand, inner, counts_from(other, states), stand)[other] < 1:
        raise BadPaper("the second state does not come to itself")


def along(steps, stand, way, counts, goal):
    """Return the counts at the end of a way, as far as they are at most 2; raise BadPaper if it leads elsewhere."""
    for step in way:
        start, to, calls = steps.move_of(step)
        if start != stand:
            raise BadPaper("a step does not lead on")
        stand = to
        # No more is asked, and a long way might come to very great numbers.
        counts = tuple([min(count, 2) for count in counts_along(counts, calls)])
    if stand != goal:
        raise BadPaper("a way ends at another stand")
    return counts
