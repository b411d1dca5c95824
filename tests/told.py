"""What the document tells, word for word and slowly, to compare the program with."""

import itertools


def size_told(term):
    return 1 if isinstance(term, str) else 1 + sum(size_told(part) for part in term[1:])


def comes_before(signs, first, second):
    """Whether a term without names comes before another one, whatever their sizes."""
    words = [word for word, _ in signs]
    one = (size_told(first), words.index(first[0]))
    other = (size_told(second), words.index(second[0]))
    if one != other:
        return one < other
    for left, right in zip(first[1:], second[1:]):
        if left != right:
            return comes_before(signs, left, right)
    return False


def names_told(term):
    if isinstance(term, str):
        return [term]
    return list(dict.fromkeys(name for part in term[1:] for name in names_told(part)))


def filled(term, filling):
    if isinstance(term, str):
        return filling[term]
    return (term[0], *[filled(part, filling) for part in term[1:]])


def names_of_rule(rule):
    """The names of the head, and all names of a rule."""
    _, head, body = rule
    first = names_told(head)
    return first, list(dict.fromkeys([*first, *[name for _, _, term in body for name in names_told(term)]]))


# Trees and rounds, as [2.2] tells them, among the trees up to a size.


def trees_to(signs, size):
    found = []
    for many in range(1, size + 1):
        for word, arity in signs:
            for parts in itertools.product(found, repeat=arity):
                if 1 + sum(map(size_told, parts)) == many:
                    found.append((word, *parts))
    return list(dict.fromkeys(found))


def marks_in_rounds(book, size):
    """The marks of all trees up to a size, if no greater trees are looked at."""
    signs, marks, rules = book
    trees = trees_to(signs, size)
    known = {tree: set() for tree in trees}
    floors = dict(marks)
    for floor in range(3):
        on_floor = [rule for rule in rules if floors[rule[0]] == floor]
        grown = True
        while grown:
            before = {tree: set(have) for tree, have in known.items()}
            for rule in on_floor:
                for tree in trees:
                    if rule[0] not in known[tree] and gives(rule, tree, trees, before):
                        known[tree].add(rule[0])
            grown = known != before
    return {tree: tuple(mark for mark, _ in marks if mark in have) for tree, have in known.items()}


def gives(rule, tree, trees, known):
    """Whether a rule gives its mark to a tree, if these marks are known."""
    _, head, body = rule
    if isinstance(head, str):
        filling = {head: tree}
    elif head[0] != tree[0]:
        return False
    else:
        filling = dict(zip(head[1:], tree[1:]))
    names, every = names_of_rule(rule)
    further = every[len(names):]
    for others in itertools.product(trees, repeat=len(further)):
        full = {**filling, **dict(zip(further, others))}
        became = [(yes, mark, filled(term, full)) for yes, mark, term in body]
        if all(term in known and (mark in known[term]) == yes for yes, mark, term in became):
            return True
    return False


# Tables and lemmas, as [3.2] to [3.8] tell them.


def row_told(signs, moves, term, filling):
    if isinstance(term, str):
        return filling[term]
    entry = moves[[word for word, _ in signs].index(term[0])]
    for part in term[1:]:
        entry = entry[row_told(signs, moves, part, filling)]
    return entry


def keeps_told(book, table):
    signs, _, rules = book
    rows, moves, _ = table
    for mark, head, body in rules:
        _, names = names_of_rule((mark, head, body))
        for numbers in itertools.product(range(len(rows)), repeat=len(names)):
            filling = dict(zip(names, numbers))
            holds = all((word in rows[row_told(signs, moves, term, filling)]) == yes for yes, word, term in body)
            if holds and mark not in rows[row_told(signs, moves, head, filling)]:
                return False
    return True


def value_told(book, table, lemmas, floor, term, filling):
    signs, marks, _ = book
    if isinstance(term, str):
        return filling[term]
    values = [value_told(book, table, lemmas, floor, part, filling) for part in term[1:]]
    entry = table[1][[word for word, _ in signs].index(term[0])]
    for row, _ in values:
        entry = entry[row]
    own = set()
    for mark, sign, parts, _, _ in lemmas:
        if dict(marks)[mark] == floor and sign == term[0]:
            if all(row == value[0] and set(asked) <= set(value[1]) for (row, asked), value in zip(parts, values)):
                own.add(mark)
    return entry, tuple(mark for mark, _ in marks if mark in own)


def follows_told(book, table, lemmas, lemma):
    _, marks, rules = book
    mark, sign, parts, index, steps = lemma
    floor = dict(marks)[mark]
    _, head, body = rules[index]
    names, every = names_of_rule(rules[index])
    if isinstance(head, tuple):
        filling = dict(zip(names, parts))
    else:
        over = tuple(f"part{letter}" for letter in "ab"[: len(parts)])
        filling = {head: value_told(book, table, lemmas, floor, (sign, *over), dict(zip(over, parts)))}
    if steps:
        trees = []
        for word, numbers in steps:
            trees.append((word, *[trees[number] for number in numbers]))
        filling[every[-1]] = value_told(book, table, lemmas, floor, trees[-1], {})
    for yes, word, term in body:
        row, own = value_told(book, table, lemmas, floor, term, filling)
        if dict(marks)[word] == floor:
            if word not in own:
                return False
        elif (word in table[0][row]) != yes:
            return False
    return True


def right_told(book, table, lemmas):
    return all(follows_told(book, table, lemmas[:index], lemma) for index, lemma in enumerate(lemmas))


def shows_told(book, table, lemmas):
    rows, moves, _ = table
    shown = {(mark, sign, tuple(row for row, _ in parts)) for mark, sign, parts, _, _ in lemmas}
    for (sign, arity), entry in zip(book[0], moves):
        for numbers in itertools.product(range(len(rows)), repeat=arity):
            if any((mark, sign, numbers) not in shown for mark in rows[moved(entry, numbers)]):
                return False
    return True


def moved(entry, numbers):
    for number in numbers:
        entry = entry[number]
    return entry


def broken_points(book, table, lemmas):
    """The numbers of those of the six points that do not hold."""
    signs = book[0]
    rows, moves, trees = table
    broken = []
    if len(set(rows)) != len(rows):
        broken.append(1)
    if any(row_told(signs, moves, tree, {}) != number for number, tree in enumerate(trees)):
        broken.append(2)
    if not all(comes_before(signs, one, other) for one, other in zip(trees, trees[1:])):
        broken.append(3)
    if not all(least_told(signs, trees, sign, arity, entry) for (sign, arity), entry in zip(signs, moves)):
        broken.append(4)
    if not keeps_told(book, table):
        broken.append(5)
    if not right_told(book, table, lemmas) or not shows_told(book, table, lemmas):
        broken.append(6)
    return broken


def least_told(signs, trees, sign, arity, entry):
    for numbers in itertools.product(range(len(trees)), repeat=arity):
        tree = (sign, *[trees[number] for number in numbers])
        if comes_before(signs, tree, trees[moved(entry, numbers)]):
            return False
    return True


# Sayings, as [4.1] to [4.5] tell them, in the rows of a table.


def holds_told(book, table, saying, filling):
    """Whether a saying holds if its free names have the rows with these numbers."""
    kind = saying[0]
    if kind == "at":
        return saying[1] in table[0][row_told(book[0], table[1], saying[2], filling)]
    if kind == "not":
        return not holds_told(book, table, saying[1], filling)
    if kind in ("and", "or"):
        both = [holds_told(book, table, part, filling) for part in saying[1:]]
        return all(both) if kind == "and" else any(both)
    each = [holds_told(book, table, saying[2], {**filling, saying[1]: row}) for row in range(len(table[0]))]
    return all(each) if kind == "all" else any(each)


def free_told(saying):
    kind = saying[0]
    if kind == "at":
        return names_told(saying[2])
    if kind in ("all", "some"):
        return [name for name in free_told(saying[2]) if name != saying[1]]
    return list(dict.fromkeys(name for part in saying[1:] for name in free_told(part)))


def rows_told(book, table, saying, names):
    found = []
    for numbers in itertools.product(range(len(table[0])), repeat=len(names)):
        if holds_told(book, table, saying, dict(zip(names, numbers))):
            found.append(numbers)
    return found


def turned_told(saying):
    kind = saying[0]
    if kind == "at" or (kind == "not" and saying[1][0] == "at"):
        return saying
    if kind in ("and", "or"):
        return (kind, turned_told(saying[1]), turned_told(saying[2]))
    if kind in ("all", "some"):
        return (kind, saying[1], turned_told(saying[2]))
    inner = saying[1]
    if inner[0] == "not":
        return turned_told(inner[1])
    if inner[0] in ("and", "or"):
        other = "or" if inner[0] == "and" else "and"
        return turned_told((other, ("not", inner[1]), ("not", inner[2])))
    other = "some" if inner[0] == "all" else "all"
    return turned_told((other, inner[1], ("not", inner[2])))
