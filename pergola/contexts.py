"""Surroundings over the trees of a pool.

A *context* is a surrounding, told from the name up: a tuple with a triple
for each sign on the way from the name to the whole: the number of the sign,
and the tuples of the numbers of the trees beside the part with the name.
"""

from pergola.terms import fold

# Candidates for a name; there are at most four signs.
NAMES = ("x", "y", "z", "u", "v")


def context_of(pool, surrounding):
    """Return the context of a surrounding."""
    return fold(surrounding, lambda name: [], lambda sign, parts: grown(pool, pool.places[sign], parts))


def grown(pool, sign, parts):
    """Return the number of a sign over numbers of trees; if one of the parts is a list, it is a context that grows."""
    for at, part in enumerate(parts):
        if isinstance(part, list):
            part.append((sign, tuple(parts[:at]), tuple(parts[at + 1:])))
            return part
    return pool.number_over(sign, tuple(parts))


def number_in(pool, context, number):
    """Return the number of the tree that a context makes of the tree with a number."""
    for sign, before, behind in context:
        number = pool.number_over(sign, (*before, number, *behind))
    return number


def surrounding_of(pool, context):
    """Return the surrounding of a context."""
    surrounding = [name for name in NAMES if name not in pool.words][0]
    for sign, before, behind in context:
        left = [pool.tree(number) for number in before]
        right = [pool.tree(number) for number in behind]
        surrounding = (pool.words[sign], *left, surrounding, *right)
    return surrounding
