"""How stands follow from one another: for a turner, and the moves of a reader over what it makes."""

from pergola.least import least_makings
from pergola.pieces import is_call
from pergola.table import entry_at

# What a stand tells of a state that does not turn the tree.
NOT_TURNED = -1


class Follow:
    """The stands that trees have if their parts have some stands."""

    def __init__(self, turner, moves):
        ins, outs, reader, sides = turner
        self.signs = ins
        self.looks = reader[1]
        self.all_sides = sides
        self.entries = {sign: entry for (sign, _), entry in zip(outs, moves)}
        self.ready = {}

    def stand(self, sign, stands):
        """Return the stand of a tree with the sign of this number, over parts with these stands."""
        looks = tuple([look for look, _ in stands])
        key = (sign, looks)
        if key not in self.ready:
            sides = [entry_at(entries[sign], looks) for entries in self.all_sides]
            self.ready[key] = entry_at(self.looks[sign], looks), [self.ready_side(side) for side in sides]
        look, recipes = self.ready[key]
        tolds = [told for _, told in stands]
        return look, tuple([told_by(recipe, tolds) for recipe in recipes])

    def ready_side(self, side):
        """Return a side made ready for `told_by`: None if it is empty, else its calls, and its signs in order.

        Each sign is told by its entry and the places of what it stands over:
        the calls have the first places, the signs those behind them.
        """
        if not side:
            return None
        calls = {}
        nodes = []
        waiting = [side]
        while waiting:
            piece = waiting.pop()
            nodes.append(piece)
            if is_call(piece):
                calls.setdefault(piece, len(calls))
            else:
                waiting.extend(piece[1:])
        recipe = []
        done = []
        for piece in reversed(nodes):
            if is_call(piece):
                done.append(calls[piece])
            else:
                places = [done.pop() for _ in piece[1:]]
                recipe.append((self.entries[piece[0]], places[::-1]))
                done.append(len(calls) + len(recipe) - 1)
        return list(calls), recipe

    def all_stands(self, most):
        """Return the stands that trees have, and how their least trees are made; TooLarge if they are too many."""
        return least_makings(self.signs, self.stand, most)


def told_by(ready, tolds):
    """Return the state of what a side becomes; `tolds` has what the stands of the parts tell."""
    if ready is None:
        return NOT_TURNED
    calls, recipe = ready
    slots = [tolds[part][state] for state, part in calls]
    if NOT_TURNED in slots:
        return NOT_TURNED
    for entry, places in recipe:
        for place in places:
            entry = entry[slots[place]]
        slots.append(entry)
    return slots[-1]
