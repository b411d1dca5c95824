"""Games by chance, and what the document says of them, word for word."""

import itertools

LETTERS = ["a", "b", "x"]


def some_game(chooser, most_states=4, most_letters=2):
    """A game that stays within all bounds."""
    while True:
        states = tuple((word, chooser.randint(0, 1)) for word in "pqrstu"[: chooser.randint(1, most_states)])
        letters = tuple(LETTERS[: chooser.randint(1, most_letters)])
        moves = {}
        for _ in range(chooser.randint(0, 16)):
            word = tuple(chooser.choice(letters) for _ in range(chooser.choice([0, 0, 1, 1, 2, 2])))
            after = chooser.choice(states)[0]
            moves[(chooser.choice(states)[0], chooser.choice(letters), after, word)] = True
        goals = {}
        for _ in range(chooser.choice([0, 1, 1, 2])):
            goals[(chooser.choice(states)[0], chooser.random() < 0.7)] = True
        game = (states, letters, tuple(moves), tuple(goals))
        if is_told_game(game):
            return game


def is_told_game(game):
    states, letters, moves, goals = game
    ones = [state for state, player in states if player == 1]
    for state in ones:
        for letter in letters:
            if len([move for move in moves if move[:2] == (state, letter)]) > 4:
                return False
    chosen = [move for move in moves if move[0] not in ones]
    return len(goals) + len(ones) * (len(letters) + 1) + len(chosen) <= 24


def is_goal(game, position):
    state, stack = position
    return (state, False) in game[3] or (not stack and (state, True) in game[3])


def moves_at(game, position):
    """The indexes of the moves that are possible, each with the position to which it leads."""
    state, stack = position
    if is_goal(game, position) or not stack:
        return []
    found = []
    for index, (here, letter, after, word) in enumerate(game[2]):
        if here == state and letter == stack[0]:
            found.append((index, (after, word + stack[1:])))
    return found


def won_by_rounds(game, height):
    """The positions with at most so many letters from which player 0 wins by games that stay among them."""
    positions = []
    for many in range(height + 1):
        for stack in itertools.product(game[1], repeat=many):
            positions += [(state, stack) for state, _ in game[0]]
    won = set()
    grown = True
    while grown:
        before = set(won)
        for position in positions:
            behind = [after in before for _, after in moves_at(game, position)]
            player = dict(game[0])[position[0]]
            if is_goal(game, position) or (any(behind) if player == 0 else all(behind)):
                won.add(position)
        grown = won != before
    return won


def falls(before, behind):
    """Whether ranks fall."""
    one = sorted(before, reverse=True)
    other = sorted(behind, reverse=True)
    for rank, lesser in zip(one, other):
        if rank != lesser:
            return lesser < rank
    return len(other) < len(one)
