"""The judge of tables and of lists of lemmas."""

from pergola.bodies import ReadyRule, Tries
from pergola.books import MAX_FLOOR, floor_of
from pergola.errors import BadPaper, NotAllowed
from pergola.lemmas import Known, is_lemma
from pergola.order import order_key
from pergola.table import Rows, check_table, entry_at, row_of, tuples_of


def keeps_rules(book, table):
    """Return True if a table keeps the rules of its book."""
    world = Rows(book, table)
    tries = Tries(world, world.all_rows)
    for number in range(len(book[2])):
        if not keeps_rule(book, world, tries, ReadyRule(book, number)):
            return False
    return True


def keeps_rule(book, world, tries, rule):
    """Return True if the rows of a world keep a rule; `tries` has all of them for a further name."""
    arity = 1 if rule.sign < 0 else book[0][rule.sign][1]
    for slots in tuples_of(world.all_rows, arity):
        value = slots[0] if rule.sign < 0 else world.step(rule.sign, slots)
        if not value & rule.bit and tries.first(rule, slots) >= 0:
            return False
    return True


def judge_lemmas(book, table, lemmas):
    """Raise BadPaper if a list of lemmas over a table is not right."""
    check_lemmas(book, table, lemmas)
    judge_right(book, table, lemmas)


def judge_table(book, table, lemmas):
    """Raise BadPaper if a table is not the table of its book, or a list of lemmas does not show it."""
    check_lemmas(book, table, lemmas)
    judge_rows(book, table)
    judge_trees(book, table)
    if not keeps_rules(book, table):
        raise BadPaper("the table does not keep the rules")
    judge_right(book, table, lemmas)
    judge_shown(book, table, lemmas)


def check_lemmas(book, table, lemmas):
    """Raise NotAllowed if something is not a table, or not a list of lemmas over it."""
    check_table(book, table)
    for lemma in lemmas:
        if not is_lemma(book, table, lemma):
            raise NotAllowed("there is something else than lemmas in the list")


def judge_right(book, table, lemmas):
    """Raise BadPaper if one of the lemmas does not follow from those before it."""
    floors = [Known(book, table, floor) for floor in range(MAX_FLOOR + 1)]
    for lemma in lemmas:
        known = floors[floor_of(book, lemma[0])]
        if not known.follows(lemma):
            raise BadPaper("a lemma does not follow from those before it")
        known.learn(lemma)


def judge_rows(book, table):
    """Raise BadPaper if two rows are the same, or a tree does not have the row that it stands for."""
    rows, moves, trees = table
    if len(set(rows)) < len(rows):
        raise BadPaper("two rows are the same")
    for number, tree in enumerate(trees):
        if row_of(book[0], moves, tree, {}) != number:
            raise BadPaper("a tree does not have the row that it stands for")


def judge_trees(book, table):
    """Raise BadPaper if the trees are not in order, or one of them can be seen not to be the least."""
    signs = book[0]
    _, moves, trees = table
    keys = [order_key(signs, tree) for tree in trees]
    for number in range(1, len(keys)):
        if not keys[number - 1] < keys[number]:
            raise BadPaper("a tree does not come behind the one before it")
    every = list(range(len(trees)))
    for sign, (_, arity) in enumerate(signs):
        for numbers in tuples_of(every, arity):
            if key_over(sign, [keys[number] for number in numbers]) < keys[entry_at(moves[sign], numbers)]:
                raise BadPaper("a tree comes before the one that is to be the least")


def key_over(sign, keys):
    """Return the key, for the order of trees, of a sign over trees with these keys."""
    key = [(1 + sum([part[0][0] for part in keys]), sign)]
    for part in keys:
        key.extend(part)
    return key


def judge_shown(book, table, lemmas):
    """Raise BadPaper if a mark that the moves tell somewhere has no lemma there."""
    rows, moves, _ = table
    shown = {}
    for mark, sign, parts, _, _ in lemmas:
        place = (mark, sign, *[row for row, _ in parts])
        shown[place] = True
    every = list(range(len(rows)))
    for number, (sign, arity) in enumerate(book[0]):
        for numbers in tuples_of(every, arity):
            for mark in rows[entry_at(moves[number], numbers)]:
                if (mark, sign, *numbers) not in shown:
                    raise BadPaper("there is no lemma for a mark that the moves tell")
