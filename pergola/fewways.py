"""Pickers by which no tree has more than so many ways."""

from pergola.errors import BadPaper, Missing, NotAllowed
from pergola.least import tree_made
from pergola.table import is_ascending, tuples_of
from pergola.ways import Capped, good_ways

MAX_MOST = 9
MAX_CAPPED = 80


def more_than(signs, picker, most):
    """Return the least tree that has more than so many ways, and None if there is none."""
    capped = capped_for(signs, picker, most)
    found, makings = capped.all_counts(MAX_CAPPED)
    for number, counts in enumerate(found):
        if good_ways(picker, counts) > most:
            return tree_made(signs, makings, number)
    return None


def capped_for(signs, picker, most):
    """Return the capped counts for 1 more than a number of ways."""
    if not 0 <= most <= MAX_MOST:
        raise NotAllowed("the number must be from 0 to 9")
    return Capped(signs, picker, most + 1)


def few_paper(signs, picker, most):
    """Return the first paper that no tree has more than so many ways."""
    found, _ = capped_for(signs, picker, most).all_counts(MAX_CAPPED)
    if any([good_ways(picker, counts) > most for counts in found]):
        raise Missing("some tree has more ways")
    return tuple(sorted(found))


def judge_few(signs, picker, most, paper):
    """Raise BadPaper if a tuple of tuples is not a right paper that no tree has more than so many ways."""
    capped = capped_for(signs, picker, most)
    for counts in paper:
        if len(counts) != picker[0] or not all([0 <= count <= most + 1 for count in counts]):
            raise BadPaper("there must be an integer from 0 to 1 more than the number for each state")
        if good_ways(picker, counts) > most:
            raise BadPaper("there may be more ways")
    if not is_ascending(paper):
        raise BadPaper("the tuples must be different, and ascend")
    present = {counts: True for counts in paper}
    for sign, (_, arity) in enumerate(signs):
        for parts in tuples_of(paper, arity):
            if capped.over(sign, parts) not in present:
                raise BadPaper("capped counts that follow are left out")
