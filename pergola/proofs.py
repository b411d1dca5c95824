"""The lemmas that show the table of a book, from what was found on its floors."""

from pergola.bodies import ALL_MARKS, MARK_BITS, bits_of, value_in, words_of
from pergola.least import needed_for, steps_to
from pergola.table import entry_at, tuples_of


def lemmas_on(book, table, floor):
    """Return a right list of lemmas of a floor, with all that a table needs to be shown there."""
    rows, moves, _ = table
    proof = Proof(floor, moves)
    values = [row << MARK_BITS | bits_of(book[1], words) & floor.all_bits for row, words in enumerate(rows)]
    for sign, (_, arity) in enumerate(book[0]):
        for parts in tuples_of(values, arity):
            proof.step(sign, parts)
    # What a find needs was found before it.
    for number in range(len(floor.finds) - 1, -1, -1):
        proof.need(number)
    lemmas = []
    for find, needed in zip(floor.finds, proof.needed):
        if needed:
            lemmas.extend(lemmas_in(book, floor, find, needed))
    return lemmas


def lemmas_in(book, floor, find, needed):
    """Return the list of the lemmas that a find is over the rows for which it is needed."""
    signs, marks, rules = book
    mark = rules[find.rule.number][0]
    owns = [words_of(marks, part & floor.own) for part in find.parts]
    steps = () if find.rule.further < 0 else steps_to(signs, find.makings, find.last)
    return [(mark, signs[find.sign][0], tuple(zip(rows, owns)), find.rule.number, steps) for rows in needed]


class Proof:
    """What was found on a floor, as a world that notes over which rows it is needed.

    A value has the number of a row, and as many of the bits of this row as
    were known at some time on the floor. What was found for these bits holds
    for all rows that have them, so it is a lemma over each of these rows.
    """

    def __init__(self, floor, moves):
        self.floor = floor
        self.moves = moves
        self.numbers = {}
        for number, find in enumerate(floor.finds):
            self.numbers.setdefault((find.sign, find.parts), []).append(number)
        self.needed = [{} for _ in floor.finds]
        self.before = len(floor.finds)

    def step(self, sign, parts):
        """Return the value of a sign over values by the finds before one, which are needed then."""
        rows = tuple([part >> MARK_BITS for part in parts])
        bits = tuple([part & ALL_MARKS for part in parts])
        value = entry_at(self.moves[sign], rows) << MARK_BITS | self.floor.step_below(sign, bits)
        for number in self.numbers.get((sign, bits), ()):
            if number < self.before:
                self.needed[number][rows] = True
                value |= self.floor.finds[number].rule.bit
        return value

    def need(self, number):
        """Note what is needed for a find over all rows for which it is needed itself."""
        find = self.floor.finds[number]
        self.before = number
        further = []
        if self.needed[number] and find.rule.further >= 0:
            further.append(self.value_made(find))
        for rows in list(self.needed[number]):
            slots = [row << MARK_BITS | bits for row, bits in zip(rows, find.parts)]
            if find.rule.sign < 0:
                slots = [self.step(find.sign, tuple(slots))]
            for literal in find.rule.literals:
                value_in(self, literal.term, [*slots, *further])

    def value_made(self, find):
        """Return the value of the tree for a further name, as it was known when it was tried."""
        made = {}
        for index in needed_for(find.makings, find.last):
            sign, parts = find.makings[index]
            value = self.step(sign, tuple([made[part] for part in parts]))
            made[index] = value >> MARK_BITS << MARK_BITS | find.reached[index]
        return made[find.last]
