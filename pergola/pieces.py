"""Pieces of what trees are turned into: calls, and signs over pieces."""


def is_call(piece):
    """Return True if a piece is a call."""
    return not isinstance(piece[0], str)


def calls_in(side):
    """Return the list of the calls in a side, from left to right, each as often as it stands there."""
    calls = []
    waiting = [side] if side else []
    while waiting:
        piece = waiting.pop()
        if is_call(piece):
            calls.append(piece)
        else:
            waiting.extend(piece[:0:-1])
    return calls


def size_over(piece, sizes):
    """Return the size of what a piece becomes; `sizes` has for each part a list with the size for each state."""
    size = 0
    waiting = [piece]
    while waiting:
        inner = waiting.pop()
        if is_call(inner):
            size += sizes[inner[1]][inner[0]]
        else:
            size += 1
            waiting.extend(inner[1:])
    return size


def with_calls(piece, tell):
    """Return a piece with `tell(state, part)` in the place of each call."""
    if is_call(piece):
        return tell(piece[0], piece[1])
    return (piece[0], *[with_calls(inner, tell) for inner in piece[1:]])
