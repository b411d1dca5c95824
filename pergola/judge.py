"""The judge of tables and of lists of lemmas."""

from pergola.bodies import ready_rules
from pergola.errors import BadPaper, NotAllowed
from pergola.lemmas import Forms, Known
from pergola.order import order_key, place_of_sign
from pergola.rows import Rows, RowTries
from pergola.table import check_table, entry_at, row_of, tuples_of


def keeps_rules(book, table):
    """Return True if a table keeps the rules of its book."""
    world = Rows(book, table)
    tries = RowTries(world)
    return all([keeps_rule(world, tries, rule) for rule in ready_rules(book, list(range(len(book[2]))))])


def keeps_rule(world, tries, rule):
    """Return True if the rows of a world keep a rule; `tries` has all of them for a further name."""
    rows = [()]
    for slot in range(len(rule.needed)):
        allowed = [value for value in world.all_rows if rule.allows(slot, value)]
        rows = [(*front, value) for front in rows for value in allowed]
    for slots in rows:
        value = slots[0] if rule.sign < 0 else world.step(rule.sign, slots)
        if not value & rule.bit and tries.first(rule, slots) >= 0:
            return False
    return True


def judge_lemmas(book, table, lemmas):
    """Raise BadPaper if a list of lemmas over a table is not right."""
    check_lemmas(book, table, lemmas)
    judge_right(book, table, lemmas)


def judge_table(book, table, lemmas):
    """Raise BadPaper if a table is not the table of its book, or a list of lemmas does not show it."""
    check_lemmas(book, table, lemmas)
    judge_rows(book, table)
    judge_trees(book, table)
    if not keeps_rules(book, table):
        raise BadPaper("the table does not keep the rules")
    judge_right(book, table, lemmas)
    judge_shown(book, table, lemmas)


def check_lemmas(book, table, lemmas):
    """Raise NotAllowed if something is not a table, or not a list of lemmas over it."""
    check_table(book, table)
    forms = Forms(book, table)
    for lemma in lemmas:
        if not forms.is_good(lemma):
            raise NotAllowed("there is something else than lemmas in the list")


def judge_right(book, table, lemmas):
    """Raise BadPaper if one of the lemmas does not follow from those before it."""
    floor_by_mark = dict(book[1])
    levels = sorted(set([level for _, level in book[1]]))
    floors = {floor: Known(book, table, floor) for floor in levels}
    for lemma in lemmas:
        known = floors[floor_by_mark[lemma[0]]]
        if not known.follows(lemma):
            raise BadPaper("a lemma does not follow from those before it")
        known.learn(lemma)


def judge_rows(book, table):
    """Raise BadPaper if two rows are the same, or a tree does not have the row that it stands for."""
    rows, moves, trees = table
    if len(set(rows)) < len(rows):
        raise BadPaper("two rows are the same")
    known = []
    for number, tree in enumerate(trees):
        entry = moves[place_of_sign(book[0], tree[0])]
        # The trees ahead of this one have the rows that they stand for.
        parts = [known.index(part) if part in known else row_of(book[0], moves, part, {}) for part in tree[1:]]
        if entry_at(entry, parts) != number:
            raise BadPaper("a tree does not have the row that it stands for")
        known.append(tree)


def judge_trees(book, table):
    """Raise BadPaper if the trees are not in order, or one of them can be seen not to be the least."""
    signs = book[0]
    _, moves, trees = table
    keys = keys_in(signs, trees)
    for number in range(1, len(keys)):
        if not keys[number - 1] < keys[number]:
            raise BadPaper("a tree does not come behind the one before it")
    every = list(range(len(trees)))
    for sign, (_, arity) in enumerate(signs):
        for numbers in tuples_of(every, arity):
            parts = [keys[number] for number in numbers]
            least = keys[entry_at(moves[sign], numbers)]
            # Most trees here have a greater size, so they need no whole key.
            if size_over(parts) <= least[0][0] and key_over(sign, parts) < least:
                raise BadPaper("a tree comes before the one that is to be the least")


def keys_in(signs, trees):
    """Return the list of the keys of trees for their order; many of them have others as their parts."""
    known = []
    keys = []
    for tree in trees:
        parts = [keys[known.index(part)] if part in known else order_key(signs, part) for part in tree[1:]]
        keys.append(key_over(place_of_sign(signs, tree[0]), parts))
        known.append(tree)
    return keys


def size_over(keys):
    """Return the size of a tree over trees with these keys."""
    return 1 + sum([key[0][0] for key in keys])


def key_over(sign, keys):
    """Return the key, for the order of trees, of a sign over trees with these keys."""
    key = [(size_over(keys), sign)]
    for part in keys:
        key.extend(part)
    return key


def judge_shown(book, table, lemmas):
    """Raise BadPaper if a mark that the moves tell somewhere has no lemma there."""
    rows, moves, _ = table
    shown = {}
    for mark, sign, parts, _, _ in lemmas:
        place = (mark, sign, *[row for row, _ in parts])
        shown[place] = True
    every = list(range(len(rows)))
    for number, (sign, arity) in enumerate(book[0]):
        for numbers in tuples_of(every, arity):
            for mark in rows[entry_at(moves[number], numbers)]:
                if (mark, sign, *numbers) not in shown:
                    raise BadPaper("there is no lemma for a mark that the moves tell")
