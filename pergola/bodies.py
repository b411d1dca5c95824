"""Bodies of rules, made ready to be tried: names and signs as numbers, marks as bits.

A *value* is an integer. Its last bits tell marks, one bit for each mark of the
book, the last bit for the first mark; what stands ahead of these bits is for
its world to say. A *world* is an object with a method `step(sign, parts)`: it
returns the value that the sign with this number has over a tuple of values.
"""

from pergola.books import further_names
from pergola.order import place_of_sign
from pergola.terms import fold, names_of

# A bit for each of at most six marks, and all of them.
MARK_BITS = 6
ALL_MARKS = 63
# The bits of as many values as there are.
EVERYWHERE = -1
# The place in the shape of a literal where many values are tried.
HOLE = -1


def bits_of(marks, words):
    """Return the bits of those marks that are among some words."""
    return sum([1 << at for at, (mark, _) in enumerate(marks) if mark in words])


def words_of(marks, bits):
    """Return the tuple of the marks that bits tell, in the order of the marks."""
    return tuple([mark for at, (mark, _) in enumerate(marks) if bits >> at & 1])


def lowest_bit(bits):
    """Return the number of the lowest bit that is set."""
    return (bits & -bits).bit_length() - 1


def numbered(signs, term, slots):
    """Return a term with the number of each sign, and for each name its slot."""
    return fold(term, lambda name: slots[name], lambda sign, parts: (place_of_sign(signs, sign), *parts))


def value_in(world, term, slots):
    """Return the value of a numbered term; `slots` has the values of its names."""
    if isinstance(term, int):
        return slots[term]
    return world.step(term[0], tuple([value_in(world, part, slots) for part in term[1:]]))


def stands_in(slot, term):
    """Return True if a slot stands in a numbered term."""
    if isinstance(term, int):
        return term == slot
    return any([stands_in(slot, part) for part in term[1:]])


def shape_of(term, slot, fixed):
    """Return a numbered term with HOLE in the place of a slot.

    In the place of each greatest part without this slot it has its index in
    the list `fixed`, to which these parts are added.
    """
    if term == slot:
        return HOLE
    if not stands_in(slot, term):
        fixed.append(term)
        return len(fixed) - 1
    return (term[0], *[shape_of(part, slot, fixed) for part in term[1:]])


def column_of(world, shape, values, many):
    """Return the list of the values of a shape with each of many values in its hole."""
    if shape == HOLE:
        return many
    if isinstance(shape, int):
        return [values[shape]] * len(many)
    columns = [column_of(world, part, values, many) for part in shape[1:]]
    return [world.step(shape[0], parts) for parts in zip(*columns)]


class Literal:
    """A literal with a numbered term; its hole is the place of one of the slots."""

    def __init__(self, yes, bit, term, slot):
        self.yes = yes
        self.bit = bit
        self.term = term
        self.fixed = []
        self.shape = shape_of(term, slot, self.fixed)

    def fits(self, value):
        """Return True if the literal holds when its term has this value."""
        return bool(value & self.bit) == self.yes


class ReadyRule:
    """A rule whose names have slots: those of its head first, then a further one."""

    def __init__(self, book, number):
        signs, marks, rules = book
        mark, head, body = rules[number]
        further = further_names(rules[number])
        names = [*names_of(head), *further]
        slots = {name: slot for slot, name in enumerate(names)}
        self.number = number
        self.bit = bits_of(marks, (mark,))
        self.sign = place_of_sign(signs, head[0]) if isinstance(head, tuple) else -1
        self.further = len(names) - 1 if further else -1
        literals = []
        for yes, word, term in body:
            literals.append(Literal(yes, bits_of(marks, (word,)), numbered(signs, term, slots), self.further))
        # What does not ask for a further tree is tried first, for it is quickly done.
        self.literals = [literal for literal in literals if literal.shape == 0]
        self.literals.extend([literal for literal in literals if literal.shape != 0])

    def holds(self, world, slots):
        """Return True if the body holds with these values of all names."""
        return all([literal.fits(value_in(world, literal.term, slots)) for literal in self.literals])


class Tries:
    """Bodies tried in a world, with each of many values for a further name.

    What came out for these values is kept until it is to be forgotten.
    """

    def __init__(self, world, many):
        self.world = world
        self.many = many
        self.columns = {}

    def forget(self):
        """Forget what came out so far, as the world is another one now."""
        self.columns = {}

    def where(self, literal, slots):
        """Return the bits of those of the many values with which a literal holds."""
        values = [value_in(self.world, term, slots) for term in literal.fixed]
        if literal.shape == 0:
            return EVERYWHERE if literal.fits(values[0]) else 0
        key = (literal, *values)
        if key not in self.columns:
            column = column_of(self.world, literal.shape, values, self.many)
            self.columns[key] = sum([1 << at for at, value in enumerate(column) if literal.fits(value)])
        return self.columns[key]

    def first(self, rule, slots):
        """Return the index of the first of the many values with which a body holds.

        It is 0 if the body holds and has no further name, and -1 if it does
        not hold.
        """
        bits = 1 if rule.further < 0 else (1 << len(self.many)) - 1
        for literal in rule.literals:
            if bits:
                bits &= self.where(literal, slots)
        return lowest_bit(bits)
