"""Bodies of rules, made ready to be tried: names and signs as numbers, marks as bits.

A *value* is an integer. Its last bits tell marks, one bit for each mark of the
book, the last bit for the first mark; what stands ahead of these bits is for
its world to say. A *world* is an object with a method `step(sign, parts)`: it
returns the value that the sign with this number has over a tuple of values.
"""

# A bit for each of at most six marks, and all of them.
MARK_BITS = 6
ALL_MARKS = 63
# The bits of as many values as there are.
EVERYWHERE = -1
# The place in the shape of a literal where many values are tried.
HOLE = -1


def bits_of(marks, words):
    """Return the bits of those marks that are among some words."""
    return sum([1 << at for at, (mark, _) in enumerate(marks) if mark in words])


def words_of(marks, bits):
    """Return the tuple of the marks that bits tell, in the order of the marks."""
    return tuple([mark for at, (mark, _) in enumerate(marks) if bits >> at & 1])


def lowest_bit(bits):
    """Return the number of the lowest bit that is set."""
    return (bits & -bits).bit_length() - 1


def numbered(signs, term, slots):
    """Return a term with the number of each sign, and for each name its slot.

    `signs` and `slots` are dicts; a name that has no slot gets the next one.
    """
    if isinstance(term, str):
        return slots.setdefault(term, len(slots))
    return (signs[term[0]], *[numbered(signs, part, slots) for part in term[1:]])


def sign_numbers(signs):
    """Return a dict with the number of each sign."""
    return {sign: number for number, (sign, _) in enumerate(signs)}


def mark_bits(marks):
    """Return a dict with the bit of each mark."""
    return {mark: 1 << at for at, (mark, _) in enumerate(marks)}


def value_in(world, term, slots):
    """Return the value of a numbered term; `slots` has the values of its names."""
    if isinstance(term, int):
        return slots[term]
    return world.step(term[0], tuple([value_in(world, part, slots) for part in term[1:]]))


def stands_in(slot, term):
    """Return True if a slot stands in a numbered term."""
    if isinstance(term, int):
        return term == slot
    return any([stands_in(slot, part) for part in term[1:]])


def shape_of(term, slot, fixed):
    """Return a numbered term with HOLE in the place of a slot.

    In the place of each greatest part without this slot it has its index in
    the list `fixed`, to which these parts are added.
    """
    if term == slot:
        return HOLE
    if not stands_in(slot, term):
        fixed.append(term)
        return len(fixed) - 1
    return (term[0], *[shape_of(part, slot, fixed) for part in term[1:]])


def column_of(world, shape, values, many, asked):
    """Return the list of the values of a shape with each of many values in its hole.

    The signs with values of parts that the world was asked for are added to
    the list `asked`.
    """
    if shape == HOLE:
        return many
    if isinstance(shape, int):
        return [values[shape]] * len(many)
    columns = [column_of(world, part, values, many, asked) for part in shape[1:]]
    steps = [(shape[0], parts) for parts in zip(*columns)]
    asked.extend(steps)
    return [world.step(sign, parts) for sign, parts in steps]


class Literal:
    """A literal with a numbered term; its hole is the place of one of the slots."""

    def __init__(self, yes, bit, term, slot):
        self.yes = yes
        self.bit = bit
        self.term = term
        self.fixed = []
        self.shape = shape_of(term, slot, self.fixed)

    def fits(self, value):
        """Return True if the literal holds when its term has this value."""
        return bool(value & self.bit) == self.yes


def ready_rules(book, numbers):
    """Return the list of the rules of a book with these indexes, made ready."""
    signs, marks, rules = book
    by_sign = sign_numbers(signs)
    by_mark = mark_bits(marks)
    return [ReadyRule(by_sign, by_mark, number, rules[number]) for number in numbers]


class ReadyRule:
    """A rule whose names have slots: those of its head first, then a further one.

    What its body asks of the names of the head themselves is told by two
    lists: the bits that are needed in each slot, and those that are barred
    there. The other literals stand in a list of their own.
    """

    def __init__(self, by_sign, by_mark, number, rule):
        mark, head, body = rule
        is_name = isinstance(head, str)
        names = (head,) if is_name else head[1:]
        slots = {name: slot for slot, name in enumerate(names)}
        self.number = number
        self.bit = by_mark[mark]
        self.sign = -1 if is_name else by_sign[head[0]]
        self.needed = [0] * len(names)
        self.barred = [0] * len(names)
        others = []
        for yes, word, term in body:
            if term not in names:
                others.append((yes, by_mark[word], numbered(by_sign, term, slots)))
            elif yes:
                self.needed[slots[term]] |= by_mark[word]
            else:
                self.barred[slots[term]] |= by_mark[word]
        self.further = len(names) if len(slots) > len(names) else -1
        literals = [Literal(yes, bit, term, self.further) for yes, bit, term in others]
        # What does not ask for a further tree is tried first, for it is quickly done.
        self.literals = [literal for literal in literals if literal.shape == 0]
        self.literals.extend([literal for literal in literals if literal.shape != 0])

    def allows(self, slot, value):
        """Return True if the name of the head with this slot may have a value."""
        return value & self.needed[slot] == self.needed[slot] and not value & self.barred[slot]

    def holds(self, world, slots):
        """Return True if the body holds with these values of all names."""
        for needed, barred, value in zip(self.needed, self.barred, slots):
            if value & needed != needed or value & barred:
                return False
        return all([literal.fits(value_in(world, literal.term, slots)) for literal in self.literals])


class Tries:
    """Bodies tried in a world, with each of many values for a further name.

    What came out for these values is kept, until something changes that the
    world was asked for.
    """

    def __init__(self, world, many):
        self.world = world
        self.many = many
        self.columns = {}
        self.askers = {}

    def forget(self, sign, parts):
        """Forget what hangs on the value of a sign over values, as this is another one now."""
        for key in self.askers.pop((sign, parts), ()):
            self.columns.pop(key, None)

    def where(self, literal, slots):
        """Return the bits of those of the many values with which a literal holds."""
        values = [value_in(self.world, term, slots) for term in literal.fixed]
        if literal.shape == 0:
            return EVERYWHERE if literal.fits(values[0]) else 0
        key = (literal, *values)
        if key not in self.columns:
            self.columns[key] = self.holding(literal, values, key)
        return self.columns[key]

    def holding(self, literal, values, key):
        """Return the bits of those values in the hole of a literal with which it holds; a key is to tell of them."""
        asked = []
        column = column_of(self.world, literal.shape, values, self.many, asked)
        for step in asked:
            self.askers.setdefault(step, []).append(key)
        return sum([1 << at for at, value in enumerate(column) if literal.fits(value)])

    def first(self, rule, slots):
        """Return the index of the first of the many values with which the other literals of a body hold.

        It is 0 if they hold and there is no further name, and -1 if they do
        not hold.
        """
        if not rule.literals:
            return 0
        bits = 1 if rule.further < 0 else (1 << len(self.many)) - 1
        for literal in rule.literals:
            if bits:
                bits &= self.where(literal, slots)
        return lowest_bit(bits)
