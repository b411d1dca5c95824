"""Lemmas over a book and a table: what they say, and what follows from them."""

from pergola.bodies import ALL_MARKS, MARK_BITS, bits_of, mark_bits, ready_rules, sign_numbers, words_of
from pergola.books import floor_of, further_names
from pergola.floors import floors_of
from pergola.proofs import lemmas_on
from pergola.table import MAX_ROWS, entry_at, table_on
from pergola.terms import fold

MAX_STEPS = 600


def is_lemma(book, table, lemma):
    """Return True if a tuple of texts, parts, an integer and steps is a lemma."""
    return Forms(book, table).is_good(lemma)


class Forms:
    """What a lemma over a book and a table must be like; what was found out once is kept."""

    def __init__(self, book, table):
        self.book_told = book
        self.rows = table[0]
        self.floors = dict(book[1])
        self.arities = dict(book[0])
        self.heads = {}
        self.parts_seen = {}

    def is_good(self, lemma):
        """Return True if a tuple of texts, parts, an integer and steps is a lemma."""
        mark, sign, parts, rule, steps = lemma
        floor = self.floors.get(mark, -1)
        if floor < 0 or not 0 <= rule < len(self.book_told[2]) or self.arities.get(sign, -1) != len(parts):
            return False
        if not all([self.is_part(floor, row, own) for row, own in parts]):
            return False
        word, head, has_further = self.head_of(rule)
        if word != mark or head not in ("", sign):
            return False
        return are_steps(self.arities, steps) if has_further else steps == ()

    def is_part(self, floor, row, own):
        """Return True if a pair is the number of a row and some marks of a floor that it has."""
        key = (floor, row, own)
        if key not in self.parts_seen:
            self.parts_seen[key] = 0 <= row < len(self.rows) and own == self.marks_among(floor, row, own)
        return self.parts_seen[key]

    def marks_among(self, floor, row, words):
        """Return the tuple of the marks of a floor that a row has and that are among some words."""
        have = self.rows[row]
        return tuple([mark for mark, other in self.book_told[1] if other == floor and mark in have and mark in words])

    def head_of(self, number):
        """Return the mark of a rule, the sign of its head or the empty text, and whether it has a further name."""
        if number not in self.heads:
            rule = self.book_told[2][number]
            sign = rule[1][0] if isinstance(rule[1], tuple) else ""
            self.heads[number] = (rule[0], sign, bool(further_names(rule)))
        return self.heads[number]


def are_steps(arities, steps):
    """Return True if a tuple of pairs is steps that tell a tree; `arities` is a dict with those of the signs."""
    if not 1 <= len(steps) <= MAX_STEPS:
        return False
    for at, (sign, numbers) in enumerate(steps):
        if arities.get(sign, -1) != len(numbers) or not all([0 <= number < at for number in numbers]):
            return False
    return True


def value_of(book, table, lemmas, floor, term, filling):
    """Return the value of a term on a floor; `filling` has those of its names."""
    known = known_by(book, table, lemmas, floor)
    value = fold(
        term,
        lambda name: known.value(filling[name]),
        lambda sign, parts: known.step(known.by_sign[sign], tuple(parts)),
    )
    return value >> MARK_BITS, words_of(book[1], value & known.own)


def follows(book, table, lemmas, lemma):
    """Return True if a lemma follows from a list of lemmas."""
    return known_by(book, table, lemmas, floor_of(book, lemma[0])).follows(lemma)


def known_by(book, table, lemmas, floor):
    """Return what the lemmas of a list tell on a floor."""
    known = Known(book, table, floor)
    for lemma in lemmas:
        if floor_of(book, lemma[0]) == floor:
            known.learn(lemma)
    return known


class Known:
    """What some lemmas of a floor tell, as a world.

    A value has the number of a row, the bits of the marks of lower floors
    that this row has, and of those marks of the floor that are known.
    """

    def __init__(self, book, table, floor):
        signs, marks, _ = book
        rows, moves, _ = table
        lower = bits_of(marks, [mark for mark, other in marks if other < floor])
        self.rulebook = book
        self.by_sign = sign_numbers(signs)
        self.by_mark = mark_bits(marks)
        self.bits_kept = {}
        self.moves = moves
        self.own = bits_of(marks, [mark for mark, other in marks if other == floor])
        self.starts = [row << MARK_BITS | (self.bits(words) & lower) for row, words in enumerate(rows)]
        self.told = {}
        self.ready = {}

    def bits(self, words):
        """Return the bits of a tuple of different marks."""
        if words not in self.bits_kept:
            self.bits_kept[words] = sum([self.by_mark[word] for word in words])
        return self.bits_kept[words]

    def value(self, pair):
        """Return the value of a pair of the number of a row and marks of the floor."""
        row, own = pair
        return self.starts[row] | self.bits(own)

    def step(self, sign, parts):
        """Return the value of a sign over values, as the moves and the lemmas tell it."""
        rows = rows_in(parts)
        value = self.starts[entry_at(self.moves[sign], rows)]
        lacking = ~side_by_side(parts)
        for bit, needed in self.told.get((sign, *rows), ()):
            if not needed & lacking:
                value |= bit
        return value

    def learn(self, lemma):
        """Add a lemma of the floor to those that are known."""
        mark, sign, parts, _, _ = lemma
        rows = [row for row, _ in parts]
        needed = side_by_side([self.bits(own) for _, own in parts])
        told = self.told.setdefault((self.by_sign[sign], *rows), [])
        told.append((self.by_mark[mark], needed))

    def follows(self, lemma):
        """Return True if a lemma of the floor follows from those that are known."""
        _, sign, parts, number, steps = lemma
        rule = self.ready_rule(number)
        slots = [self.value(part) for part in parts]
        if rule.sign < 0:
            slots = [self.step(self.by_sign[sign], tuple(slots))]
        if steps:
            slots.append(self.value_of_steps(steps))
        return rule.holds(self, slots)

    def ready_rule(self, number):
        """Return the rule with an index, made ready once."""
        if number not in self.ready:
            self.ready[number] = ready_rules(self.rulebook, [number])[0]
        return self.ready[number]

    def value_of_steps(self, steps):
        """Return the value of the tree that steps tell."""
        values = []
        for sign, numbers in steps:
            values.append(self.step(self.by_sign[sign], tuple([values[number] for number in numbers])))
        return values[-1]


def rows_in(values):
    """Return the list of the numbers of the rows in some values."""
    return [value >> MARK_BITS for value in values]


def side_by_side(values):
    """Return the marks of some values in one integer."""
    bits = 0
    for value in values:
        bits = bits << MARK_BITS | value & ALL_MARKS
    return bits


def lemmas_of(book):
    """Return a right list of lemmas that shows the table of a book."""
    floors = floors_of(book, MAX_ROWS)
    table = table_on(book, floors[-1])
    lemmas = []
    for floor in floors:
        lemmas.extend(lemmas_on(book, table, floor))
    return lemmas
