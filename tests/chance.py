"""Books and sayings by chance, the same ones in each run."""

SHAPES = [
    [("z", 0), ("s", 1)],
    [("z", 0), ("pair", 2)],
    [("z", 0), ("s", 1), ("pair", 2)],
    [("z", 0), ("o", 0), ("pair", 2)],
    [("z", 0), ("s", 1), ("t", 1)],
    [("z", 0), ("o", 0), ("s", 1), ("pair", 2)],
    [("z", 0), ("s", 1), ("t", 1), ("w", 1)],
    [("z", 0), ("pair", 2), ("node", 2)],
]
FLOORS = [[0], [0], [0, 1], [0, 1, 2], [1, 2]]


def some_term(chooser, signs, names, size):
    """A term of at most this size."""
    fitting = [(word, arity) for word, arity in signs if arity and arity < size]
    if not fitting:
        leaves = [(word,) for word, arity in signs if arity == 0]
        return chooser.choice(names) if names and chooser.random() < 0.8 else chooser.choice(leaves)
    word, arity = chooser.choice(fitting)
    if arity == 1:
        return (word, some_term(chooser, signs, names, size - 1))
    left = chooser.randint(1, size - 2)
    return (word, some_term(chooser, signs, names, left), some_term(chooser, signs, names, size - 1 - left))


def some_book(chooser, most_marks=4, most_rules=10):
    signs = list(chooser.choice(SHAPES))
    chooser.shuffle(signs)
    floors = chooser.choice(FLOORS)
    many = chooser.randint(1, most_marks)
    marks = tuple(("m" + letter, chooser.choice(floors)) for letter in "abcdef"[:many])
    rules = [some_rule(chooser, signs, marks, mark) for mark in marks]
    while len(rules) < most_rules and chooser.random() < 0.9:
        rules.append(some_rule(chooser, signs, marks, chooser.choice(marks)))
    return (tuple(signs), marks, tuple(rules))


def some_rule(chooser, signs, marks, pair):
    mark, floor = pair
    word, arity = chooser.choice(signs)
    head = "x" if chooser.random() < 0.2 else (word, *["x", "y"][:arity])
    names = ["x"] if isinstance(head, str) else list(head[1:])
    if chooser.random() < 0.3:
        names.append("u")
    body = []
    for _ in range(chooser.choice([0, 1, 1, 1, 2, 2, 3, 4])):
        yes = chooser.random() < 0.6
        pool = [other for other, low in marks if low <= floor - (not yes)]
        size = chooser.choice([1, 1, 1, 2, 2, 3, 4, 6])
        if pool:
            body.append((yes, chooser.choice(pool), some_term(chooser, signs, names, size)))
    return (mark, head, tuple(body))


def some_saying(chooser, book, names, nodes, nested):
    """A saying of at most so many nodes, whose free names are among these."""
    signs, marks, _ = book
    way = chooser.random()
    if nodes < 2 or way < 0.1:
        return ("at", chooser.choice(marks)[0], some_term(chooser, signs, names, chooser.randint(1, 4)))
    if way < 0.3:
        return ("not", some_saying(chooser, book, names, nodes - 1, nested))
    if nested and (way < 0.6 or nodes < 3):
        name = chooser.choice([*names, "v"])
        inner = some_saying(chooser, book, [*names, name], nodes - 1, nested - 1)
        return (chooser.choice(["all", "some"]), name, inner)
    if nodes < 3:
        return some_saying(chooser, book, names, 1, nested)
    left = chooser.randint(1, nodes - 2)
    first = some_saying(chooser, book, names, left, nested)
    return (chooser.choice(["and", "or"]), first, some_saying(chooser, book, names, nodes - 1 - left, nested))
