"""Rules that look down: from the marks of its parts they tell those of a tree."""

from pergola.bodies import bits_of, words_of
from pergola.order import place_of_sign
from pergola.table import entry_at, table_of, tuples_of
from pergola.terms import arity_of, fold

# Two of these words at least are no signs.
NAMES = ("x", "y", "z", "w", "u", "v")


def down_rules(book):
    """Return a list of down rules that give each tree the marks that a book gives it."""
    rows, moves, _ = table_of(book)
    every = list(range(len(rows)))
    names = [name for name in NAMES if arity_of(book[0], name) < 0]
    rules = {}
    for number, (sign, arity) in enumerate(book[0]):
        head = (sign, *names[:arity])
        for numbers in tuples_of(every, arity):
            told = rows[entry_at(moves[number], numbers)]
            parts = [(name, rows[row]) for name, row in zip(head[1:], numbers)]
            for mark, floor in book[1]:
                if mark in told:
                    rule = (mark, head, body_for(book[1], floor, parts))
                    rules[rule] = True
    return list(rules)


def body_for(marks, floor, parts):
    """Return literals for names with rows, which hold for trees of these rows or with more marks of a floor.

    Marks of this floor must not be asked to be lacking, and need not: with
    more of them in its parts, a tree has no less of them.
    """
    body = []
    for name, row in parts:
        body.extend([(True, mark, name) for mark, other in marks if other <= floor and mark in row])
        body.extend([(False, mark, name) for mark, other in marks if other < floor and mark not in row])
    return tuple(body)


def marks_by_rules(signs, marks, rules, tree):
    """Return the tuple of the marks that a tree has by a list of down rules."""
    world = Down(signs, marks, rules)
    bits = fold(tree, lambda name: 0, lambda sign, parts: world.step(place_of_sign(signs, sign), tuple(parts)))
    return words_of(marks, bits)


class Down:
    """Down rules as a world: the value of a tree is the bits of its marks."""

    def __init__(self, signs, marks, rules):
        bits = {mark: bits_of(marks, (mark,)) for mark, _ in marks}
        self.rules_for = [[] for _ in signs]
        self.moves = {}
        for mark, head, body in rules:
            asked = [asked_of(bits, body, name) for name in head[1:]]
            self.rules_for[place_of_sign(signs, head[0])].append((bits[mark], asked))

    def step(self, sign, parts):
        """Return the marks of a sign over parts with these marks."""
        key = (sign, *parts)
        if key not in self.moves:
            self.moves[key] = self.marks_over(sign, parts)
        return self.moves[key]

    def marks_over(self, sign, parts):
        """Return the marks that the rules give to a sign over parts with these marks."""
        value = 0
        for bit, asked in self.rules_for[sign]:
            if not value & bit and are_as_asked(parts, asked):
                value |= bit
        return value


def asked_of(bits, body, name):
    """Return the marks that a body needs for a name, and those that it bars."""
    needed = 0
    barred = 0
    for yes, mark, term in body:
        if term == name and yes:
            needed |= bits[mark]
        if term == name and not yes:
            barred |= bits[mark]
    return needed, barred


def are_as_asked(parts, asked):
    """Return True if parts with these marks have those that are needed, and none that are barred."""
    for part, (needed, barred) in zip(parts, asked):
        if part & needed != needed or part & barred:
            return False
    return True
