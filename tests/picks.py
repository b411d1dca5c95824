"""What the document tells of pickers, word for word and slowly, and pickers by chance."""

import itertools


def some_picker(chooser, signs, many, often=0.4):
    """A picker with so many states, in which each state is among the choices so often."""

    def states():
        return tuple(state for state in range(many) if chooser.random() < often)

    def entry(arity):
        if arity == 0:
            return states()
        return tuple(entry(arity - 1) for _ in range(many))

    return (many, tuple(entry(arity) for _, arity in signs), states() or (many - 1,))


def entry_of(signs, picker, sign):
    return picker[1][[word for word, _ in signs].index(sign)]


def ways_to_any(signs, picker, tree):
    """All ways of a tree, to any state."""
    found = []
    for ways in itertools.product(*[ways_to_any(signs, picker, part) for part in tree[1:]]):
        states = entry_of(signs, picker, tree[0])
        for way in ways:
            states = states[way[0]]
        found += [(state, *ways) for state in states]
    return found


def ways_told(signs, picker, tree):
    return sorted(way for way in ways_to_any(signs, picker, tree) if way[0] in picker[2])


def counts_over_told(signs, picker, sign, parts):
    """The counts of a sign over parts with these counts."""
    many, _, _ = picker
    found = [0] * many
    for states in itertools.product(range(many), repeat=len(parts)):
        reached = entry_of(signs, picker, sign)
        ways = 1
        for state, counts in zip(states, parts):
            reached = reached[state]
            ways *= counts[state]
        for state in reached:
            found[state] += ways
    return tuple(found)


def counts_told(signs, picker, tree):
    return counts_over_told(signs, picker, tree[0], [counts_told(signs, picker, part) for part in tree[1:]])


def good_told(picker, counts):
    return sum(counts[state] for state in picker[2])


def led_told(signs, picker, surrounding, start):
    """The numbers of ways in which a surrounding leads from a state to each state."""
    if isinstance(surrounding, str):
        return tuple(1 if state == start else 0 for state in range(picker[0]))
    return counts_over_told(signs, picker, surrounding[0], [led_told(signs, picker, part, start) for part in surrounding[1:]])


def useful_told(signs, picker):
    """The useful states, by going over states until nothing changes."""
    many, _, goods = picker
    reached, grown = set(), True
    while grown:
        before = set(reached)
        for sign, arity in signs:
            for states in itertools.product(sorted(before), repeat=arity):
                entry = entry_of(signs, picker, sign)
                for state in states:
                    entry = entry[state]
                reached |= set(entry)
        grown = before != reached
    useful, grown = {state for state in reached if state in goods}, True
    while grown:
        before = set(useful)
        for sign, arity in signs:
            for states in itertools.product(sorted(reached), repeat=arity):
                entry = entry_of(signs, picker, sign)
                for state in states:
                    entry = entry[state]
                if set(entry) & before:
                    useful |= set(states)
        grown = before != useful
    return tuple(sorted(useful))


def greatest_told(signs, picker, size, bound=80):
    """The greatest numbers of ways of trees up to each size, by counts of useful states alone; None if it takes too much."""
    useful = useful_told(signs, picker)
    by_size = [[]]
    best = [0]
    for whole in range(1, size + 1):
        found = set()
        for sign, arity in signs:
            for sizes in itertools.product(range(1, whole), repeat=arity):
                if sum(sizes) == whole - 1:
                    for parts in itertools.product(*[by_size[part] for part in sizes]):
                        counts = counts_over_told(signs, picker, sign, parts)
                        found.add(tuple(count if state in useful else 0 for state, count in enumerate(counts)))
        kept = []
        for counts in sorted(found, key=lambda row: (-sum(row), row)):
            if not any(all(more >= less for more, less in zip(other, counts)) for other in kept):
                kept.append(counts)
        if len(kept) > bound:
            return None
        by_size.append(kept)
        best.append(max([best[-1], *[good_told(picker, counts) for counts in kept]]))
    return best
