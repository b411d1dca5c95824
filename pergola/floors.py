"""The marks that a book gives, worked out floor by floor."""

from pergola.bodies import Tries, bits_of, ready_rules
from pergola.books import MAX_FLOOR, rules_of_floor
from pergola.errors import TooLarge
from pergola.least import least_makings


def floors_of(book, most):
    """Return the list of the floors of a book that have marks, all worked out.

    Raises TooLarge if trees have more than `most` rows. No floor can have
    more rows than the book.
    """
    floors = []
    below = None
    for number in range(MAX_FLOOR + 1):
        words = [mark for mark, floor in book[1] if floor == number]
        if words:
            below = Floor(book, number, words, below)
            below.settle()
            if len(below.reached) > most:
                raise TooLarge(f"there are more than {most} rows")
            floors.append(below)
    return floors


class Floor:
    """The marks of one floor, over those of the floors below it.

    A value has the bits of marks of this and of all lower floors. Those of
    lower floors are just those of its trees; those of this floor are marks
    that its trees are known to have. The marks that follow over some values
    are found little by little, until the rules tell nothing new.
    """

    def __init__(self, book, number, words, below):
        signs, marks, _ = book
        rules = ready_rules(book, rules_of_floor(book, number))
        self.signs = signs
        self.below = below
        self.own = bits_of(marks, words)
        self.all_bits = self.own if below is None else self.own | below.all_bits
        by_sign = [[rule for rule in rules if rule.sign in (-1, sign)] for sign in range(len(signs))]
        self.rules_by_sign = [Choices(some) for some in by_sign]
        # Then what the rules give hangs on nothing but the values of the parts.
        self.is_flat = not any([rule.literals for rule in rules])
        self.moves = [{} for _ in signs]
        self.reached = []
        self.makings = []
        self.tries = Tries(self, [])
        self.finds = []

    def step(self, sign, parts):
        """Return the value that is known so far for a sign over values."""
        moves = self.moves[sign]
        if parts not in moves:
            moves[parts] = self.step_below(sign, parts)
        return moves[parts]

    def step_below(self, sign, parts):
        """Return the bits of lower floors for a sign over values."""
        if self.below is None:
            return 0
        return self.below.step(sign, tuple([part & self.below.all_bits for part in parts]))

    def settle(self):
        """Go over all values that trees have until nothing changes."""
        settled = False
        while not settled:
            many = len(self.finds)
            values, makings = least_makings(self.signs, self.complete)
            # The further trees that were tried are those of the time before.
            settled = self.is_flat or (len(self.finds) == many and values == self.reached)
            self.reached = values
            self.makings = makings
            self.tries = Tries(self, values)

    def complete(self, sign, parts):
        """Find all marks that follow by now for a sign over values; return its value."""
        value = self.step(sign, parts)
        rules = self.rules_by_sign[sign].fitting(parts)
        before = -1
        while value != before:
            before = value
            for rule in rules:
                if not value & rule.bit and self.try_rule(rule, sign, parts, value):
                    value |= rule.bit
        return value

    def try_rule(self, rule, sign, parts, value):
        """Return True if a rule gives its mark to a sign over values, which is noted."""
        slots = parts
        if rule.sign < 0:
            slots = (value,)
            if not rule.allows(0, value):
                return False
        at = self.tries.first(rule, slots)
        if at < 0:
            return False
        self.moves[sign][parts] = value | rule.bit
        # Proofs rely on it that a find follows from what is known just then.
        self.tries.forget(sign, parts)
        self.finds.append(Find(rule, sign, parts, self.reached, self.makings, at))
        return True


class Choices:
    """The rules for trees with a sign, of which those are chosen that some values of the parts allow.

    Rules are told by bits, one for each of them in their order. What a rule
    whose head is a name asks for is not asked here.
    """

    def __init__(self, rules):
        self.rules_here = rules
        self.allowed = [{}, {}]
        self.lists = {}

    def fitting(self, parts):
        """Return the list of the rules that allow these values of the parts."""
        bits = (1 << len(self.rules_here)) - 1
        for slot, value in enumerate(parts):
            allowed = self.allowed[slot]
            if value not in allowed:
                fits = [rule.sign < 0 or rule.allows(slot, value) for rule in self.rules_here]
                allowed[value] = sum([1 << at for at, yes in enumerate(fits) if yes])
            bits &= allowed[value]
        if bits not in self.lists:
            self.lists[bits] = [rule for at, rule in enumerate(self.rules_here) if bits >> at & 1]
        return self.lists[bits]


class Find:
    """A mark that a rule gives to a sign over values of parts.

    If the rule has a further name, the tree with the index `last` stands for
    it, one of those that were reached with these values and made so.
    """

    def __init__(self, rule, sign, parts, reached, makings, last):
        self.rule = rule
        self.sign = sign
        self.parts = parts
        self.reached = reached
        self.makings = makings
        self.last = last
