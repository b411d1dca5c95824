"""Games of two players on a stack."""

from pergola.errors import Missing, NotAllowed
from pergola.readers import least_reader
from pergola.table import marks_of
from pergola.terms import are_different_words, number_beside

MAX_STACK = 99

BOTTOM = "bottom"
MAX_GAME_STATES = 6
MAX_LETTERS = 3
MAX_LETTERS_OF_MOVE = 2
MAX_CHOICES = 4
MAX_RULES_OF_GAME = 24


def check_game(game):
    """Raise NotAllowed if a tuple of four tuples is not a game."""
    check_beginning(game)
    if not game[1]:
        raise NotAllowed("there must be a letter")


def check_beginning(game):
    """Raise NotAllowed if a game breaks a rule, but it may lack letters as long as nothing comes behind them."""
    states, letters, moves, goals = game
    if not 1 <= len(states) <= MAX_GAME_STATES or len(letters) > MAX_LETTERS:
        raise NotAllowed("there must be 1 to 6 states, and at most 3 letters")
    words = [BOTTOM, *[state for state, _ in states], *letters]
    if not are_different_words(words):
        raise NotAllowed("states and letters must be different words, and none of them bottom")
    if not all([player in (0, 1) for _, player in states]):
        raise NotAllowed("a player must be 0 or 1")
    if goals and not letters:
        raise NotAllowed("there must be a letter ahead of a goal")
    for move in moves:
        check_move(game, move)
    for goal in goals:
        if number_beside(states, goal[0]) < 0:
            raise NotAllowed("a goal must have a state of the game")
    if len(set(moves)) < len(moves) or len(set(goals)) < len(goals):
        raise NotAllowed("moves and goals must be different")
    if rules_needed(game) > MAX_RULES_OF_GAME:
        raise NotAllowed("there are too many goals, states of player 1 and moves of player 0")


def check_move(game, move):
    """Raise NotAllowed if a quadruple cannot be a move beside the other moves of a game."""
    states, letters, moves, _ = game
    state, letter, after, word = move
    if number_beside(states, state) < 0 or number_beside(states, after) < 0:
        raise NotAllowed("a move must have states of the game")
    if letter not in letters or not all([other in letters for other in word]):
        raise NotAllowed("a move must have letters of the game")
    if len(word) > MAX_LETTERS_OF_MOVE:
        raise NotAllowed("a move must have at most two letters for its word")
    if number_beside(states, state) == 1 and len(moves_with(moves, state, letter)) > MAX_CHOICES:
        raise NotAllowed("a state of player 1 must have at most 4 moves with the same letter")


def moves_with(moves, state, letter):
    """Return the list of the indexes of the moves from a state with a letter."""
    return [index for index, move in enumerate(moves) if move[0] == state and move[1] == letter]


def rules_needed(game):
    """Return the number of which a game allows at most 24."""
    states, letters, moves, goals = game
    ones = [state for state, player in states if player == 1]
    chosen = [move for move in moves if move[0] not in ones]
    return len(goals) + len(ones) * (1 + len(letters)) + len(chosen)


def book_of(game):
    """Return the book of a game."""
    states, letters, moves, goals = game
    name = [word for word in ("x", "y", "z", "w") if word not in letters][0]
    rules = [(state, (BOTTOM,) if empty else name, ()) for state, empty in goals]
    rules.extend([(state, (BOTTOM,), ()) for state, player in states if player == 1])
    for state, player in states:
        for letter in letters:
            literals = [literal_of(moves[index], name) for index in moves_with(moves, state, letter)]
            head = (letter, name)
            if player == 1:
                rules.append((state, head, tuple(literals)))
            else:
                rules.extend([(state, head, (literal,)) for literal in literals])
    signs = (*[(letter, 1) for letter in letters], (BOTTOM, 0))
    return signs, tuple([(state, 0) for state, _ in states]), tuple(rules)


def literal_of(move, name):
    """Return the literal of a move, with a name for the rest of the stack."""
    _, _, after, word = move
    return True, after, stack_on(word, name)


def stack_on(word, rest):
    """Return the term of letters, the top one first, on top of another term."""
    for letter in word[::-1]:
        rest = (letter, rest)
    return rest


def check_position(game, state, stack):
    """Raise Missing if a game has no such state, NotAllowed if it has no such stack, or a greater one is given."""
    check_state(game, state)
    if len(stack) > MAX_STACK or not all([letter in game[1] for letter in stack]):
        raise NotAllowed("a stack must have at most 99 letters of the game")


def check_state(game, state):
    """Raise Missing if a game has no such state."""
    if number_beside(game[0], state) < 0:
        raise Missing("the game has no such state")


def options(game, state, stack):
    """Return the list of the indexes of the moves that are possible at a position."""
    check_position(game, state, stack)
    return options_at(game, state, stack[0] if stack else BOTTOM)


def at_goal(game, state, stack):
    """Return True if a position is at a goal."""
    check_position(game, state, stack)
    return is_goal(game, state, stack[0] if stack else BOTTOM)


def options_at(game, state, top):
    """Return the indexes of the moves that are possible in a state with this letter, or the bottom, on top."""
    return [] if is_goal(game, state, top) else moves_with(game[2], state, top)


def is_goal(game, state, top):
    """Return True if a state with this letter, or the bottom, on top is at a goal."""
    goals = game[3]
    return (state, False) in goals or (top == BOTTOM and (state, True) in goals)


def winner(game, state, stack):
    """Return the player who wins from a position."""
    check_position(game, state, stack)
    return 0 if state in marks_of(book_of(game), stack_on(stack, (BOTTOM,))) else 1


def winning(game, state):
    """Return the least reader that tells the stacks with which player 0 wins from a state."""
    check_state(game, state)
    return least_reader(book_of(game), (state,))
