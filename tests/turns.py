"""What the document tells of turners, word for word and slowly, and turners by chance."""

import itertools

import told

SHAPES = [
    (("z", 0), ("s", 1)),
    (("z", 0), ("pair", 2)),
    (("s", 1), ("z", 0), ("pair", 2)),
    (("z", 0), ("o", 0), ("pair", 2)),
    (("o", 0), ("s", 1), ("z", 0), ("t", 1)),
]


def some_piece(chooser, signs, states, parts, size):
    """A piece of at most this size."""
    fitting = [(word, arity) for word, arity in signs if arity and arity < size]
    if not fitting or chooser.random() < 0.3:
        if parts and chooser.random() < 0.75:
            return (chooser.randrange(states), chooser.randrange(parts))
        return chooser.choice([(word,) for word, arity in signs if arity == 0])
    word, arity = chooser.choice(fitting)
    if arity == 1:
        return (word, some_piece(chooser, signs, states, parts, size - 1))
    left = chooser.randint(1, size - 2)
    first = some_piece(chooser, signs, states, parts, left)
    return (word, first, some_piece(chooser, signs, states, parts, size - 1 - left))


def some_turner(chooser, ins, outs, looks=2, states=2, size=4, empty=0.15):
    """A turner whose sides are empty so often, and otherwise have at most this size."""

    def look_entry(arity):
        if arity == 0:
            return chooser.randrange(looks)
        return tuple(look_entry(arity - 1) for _ in range(looks))

    def entry(left, arity):
        if left:
            return tuple(entry(left - 1, arity) for _ in range(looks))
        if chooser.random() < empty:
            return ()
        return some_piece(chooser, outs, states, arity, chooser.randint(1, size))

    reader = (tuple(() for _ in range(looks)), tuple(look_entry(arity) for _, arity in ins))
    sides = tuple(tuple(entry(arity, arity) for _, arity in ins) for _ in range(states))
    return (ins, outs, reader, sides)


def place(signs, word):
    return [sign for sign, _ in signs].index(word)


def look_told(turner, tree):
    return told.row_told(turner[0], turner[2][1], tree, {})


def side_told(turner, state, tree):
    side = turner[3][state][place(turner[0], tree[0])]
    for part in tree[1:]:
        side = side[look_told(turner, part)]
    return side


def is_call(piece):
    return isinstance(piece[0], int)


def calls_told(piece):
    """The calls of a piece, from left to right."""
    if not piece:
        return []
    if is_call(piece):
        return [piece]
    return [call for part in piece[1:] for call in calls_told(part)]


def turned_told(turner, state, tree):
    """What a state turns a tree into, and None if it does not turn it."""
    side = side_told(turner, state, tree)
    if side == ():
        return None

    def became(piece):
        if is_call(piece):
            return turned_told(turner, piece[0], tree[1 + piece[1]])
        parts = [became(part) for part in piece[1:]]
        return None if None in parts else (piece[0], *parts)

    return became(side)


def counts_told(turner, tree, path):
    states = len(turner[3])
    if path == ():
        return tuple(1 if state == 0 else 0 for state in range(states))
    before = counts_told(turner, tree, path[:-1])
    node = tree
    for at in path[:-1]:
        node = node[1 + at]
    found = []
    for state in range(states):
        calls = [calls_told(side_told(turner, other, node)).count((state, path[-1])) for other in range(states)]
        found.append(sum(many * count for many, count in zip(calls, before)))
    return tuple(found)


def stand_told(turner, reader, tree):
    states = []
    for state in range(len(turner[3])):
        became = turned_told(turner, state, tree)
        states.append(-1 if became is None else told.row_told(turner[1], reader[1], became, {}))
    return look_told(turner, tree), tuple(states)


def stand_after(turner, moves, sign, stands):
    """The stand that follows for a sign, told by its word, over parts with these stands."""
    at = place(turner[0], sign)
    look = told.moved(turner[2][1][at], [look for look, _ in stands])
    found = []
    for state in range(len(turner[3])):
        side = told.moved(turner[3][state][at], [other for other, _ in stands])
        found.append(state_after(turner, moves, side, stands))
    return look, tuple(found)


def state_after(turner, moves, side, stands):
    if side == () or any(stands[part][1][state] == -1 for state, part in calls_told(side)):
        return -1

    def state_of(piece):
        if is_call(piece):
            return stands[piece[1]][1][piece[0]]
        return told.moved(moves[place(turner[1], piece[0])], [state_of(part) for part in piece[1:]])

    return state_of(side)


def closure(values, signs, follow):
    """All values that follow for signs over some values."""
    found = dict.fromkeys(values)
    while True:
        more = {}
        for sign, arity in signs:
            for parts in itertools.product(found, repeat=arity):
                value = follow(sign, parts)
                if value not in found:
                    more[value] = True
        if not more:
            return list(found)
        found.update(more)


def paths_in(tree):
    return [(), *[(at, *path) for at, part in enumerate(tree[1:]) for path in paths_in(part)]]
