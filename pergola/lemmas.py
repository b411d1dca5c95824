"""Lemmas over a book and a table: what they say, and what follows from them."""

from pergola.bodies import ALL_MARKS, MARK_BITS, ReadyRule, bits_of, words_of
from pergola.books import floor_of, further_names
from pergola.floors import floors_of
from pergola.order import place_of_sign
from pergola.proofs import lemmas_on
from pergola.table import MAX_ROWS, entry_at, table_on
from pergola.terms import arity_of, fold, number_beside

MAX_STEPS = 600


def is_lemma(book, table, lemma):
    """Return True if a tuple of texts, parts, an integer and steps is a lemma."""
    signs, marks, rules = book
    mark, sign, parts, rule, steps = lemma
    floor = number_beside(marks, mark)
    if floor < 0 or not 0 <= rule < len(rules) or arity_of(signs, sign) != len(parts):
        return False
    own = [word for word, other in marks if other == floor]
    if not all([is_part(own, table[0], part) for part in parts]):
        return False
    word, head, _ = rules[rule]
    if word != mark or (isinstance(head, tuple) and head[0] != sign):
        return False
    if not further_names(rules[rule]):
        return steps == ()
    return are_steps(signs, steps)


def is_part(words, rows, part):
    """Return True if a pair is the number of a row and some of these marks that it has."""
    row, own = part
    if not 0 <= row < len(rows):
        return False
    return own == tuple([word for word in words if word in rows[row] and word in own])


def are_steps(signs, steps):
    """Return True if a tuple of pairs is steps that tell a tree."""
    if not 1 <= len(steps) <= MAX_STEPS:
        return False
    for at, (sign, numbers) in enumerate(steps):
        if arity_of(signs, sign) != len(numbers) or not all([0 <= number < at for number in numbers]):
            return False
    return True


def value_of(book, table, lemmas, floor, term, filling):
    """Return the value of a term on a floor; `filling` has those of its names."""
    known = known_by(book, table, lemmas, floor)
    value = fold(
        term,
        lambda name: known.value(filling[name]),
        lambda sign, parts: known.step(place_of_sign(book[0], sign), tuple(parts)),
    )
    return value >> MARK_BITS, words_of(book[1], value & known.own)


def follows(book, table, lemmas, lemma):
    """Return True if a lemma follows from a list of lemmas."""
    return known_by(book, table, lemmas, floor_of(book, lemma[0])).follows(lemma)


def known_by(book, table, lemmas, floor):
    """Return what the lemmas of a list tell on a floor."""
    known = Known(book, table, floor)
    for lemma in lemmas:
        if floor_of(book, lemma[0]) == floor:
            known.learn(lemma)
    return known


class Known:
    """What some lemmas of a floor tell, as a world.

    A value has the number of a row, the bits of the marks of lower floors
    that this row has, and of those marks of the floor that are known.
    """

    def __init__(self, book, table, floor):
        signs, marks, _ = book
        rows, moves, _ = table
        lower = bits_of(marks, [mark for mark, other in marks if other < floor])
        self.rulebook = book
        self.signs = signs
        self.moves = moves
        self.own = bits_of(marks, [mark for mark, other in marks if other == floor])
        self.starts = [row << MARK_BITS | (bits_of(marks, words) & lower) for row, words in enumerate(rows)]
        self.told = {}
        self.ready = {}

    def value(self, pair):
        """Return the value of a pair of the number of a row and marks of the floor."""
        row, own = pair
        return self.starts[row] | bits_of(self.rulebook[1], own)

    def step(self, sign, parts):
        """Return the value of a sign over values, as the moves and the lemmas tell it."""
        rows = rows_in(parts)
        value = self.starts[entry_at(self.moves[sign], rows)]
        lacking = ~side_by_side(parts)
        for bit, needed in self.told.get((sign, *rows), ()):
            if not needed & lacking:
                value |= bit
        return value

    def learn(self, lemma):
        """Add a lemma of the floor to those that are known."""
        mark, sign, parts, _, _ = lemma
        rows = [row for row, _ in parts]
        needed = side_by_side([bits_of(self.rulebook[1], own) for _, own in parts])
        told = self.told.setdefault((place_of_sign(self.signs, sign), *rows), [])
        told.append((bits_of(self.rulebook[1], (mark,)), needed))

    def follows(self, lemma):
        """Return True if a lemma of the floor follows from those that are known."""
        _, sign, parts, number, steps = lemma
        rule = self.ready_rule(number)
        slots = [self.value(part) for part in parts]
        if rule.sign < 0:
            slots = [self.step(place_of_sign(self.signs, sign), tuple(slots))]
        if steps:
            slots.append(self.value_of_steps(steps))
        return rule.holds(self, slots)

    def ready_rule(self, number):
        """Return the rule with an index, made ready once."""
        if number not in self.ready:
            self.ready[number] = ReadyRule(self.rulebook, number)
        return self.ready[number]

    def value_of_steps(self, steps):
        """Return the value of the tree that steps tell."""
        values = []
        for sign, numbers in steps:
            values.append(self.step(place_of_sign(self.signs, sign), tuple([values[number] for number in numbers])))
        return values[-1]


def rows_in(values):
    """Return the list of the numbers of the rows in some values."""
    return [value >> MARK_BITS for value in values]


def side_by_side(values):
    """Return the marks of some values in one integer."""
    bits = 0
    for value in values:
        bits = bits << MARK_BITS | value & ALL_MARKS
    return bits


def lemmas_of(book):
    """Return a right list of lemmas that shows the table of a book."""
    floors = floors_of(book, MAX_ROWS)
    table = table_on(book, floors[-1])
    lemmas = []
    for floor in floors:
        lemmas.extend(lemmas_on(book, table, floor))
    return lemmas
