"""The texts of games."""

from pergola.bookreader import lines_of
from pergola.errors import BadForm, NotAllowed
from pergola.games import check_beginning
from pergola.parts import Parts

MAX_GAME_TEXT = 4000


def game_text(game):
    """Return the plain text of a game."""
    states, letters, moves, goals = game
    lines = [f"state {state} {player}" for state, player in states]
    lines.extend([f"letter {letter}" for letter in letters])
    for state, letter, after, word in moves:
        lines.append(" ".join(["move", state, letter, "to", after, *word]))
    lines.extend([f"goal {state} empty" if empty else f"goal {state}" for state, empty in goals])
    return "".join([f"{line}\n" for line in lines])


def read_game(text):
    """Return the game that a text tells; raise BadForm with the first bad line."""
    if len(text) > MAX_GAME_TEXT:
        raise BadForm(0)
    game = ([], [], [], [])
    lines = lines_of(text)
    for number, line in enumerate(lines, start=1):
        try:
            read_line(game, Parts(line))
        except (BadForm, NotAllowed):
            raise BadForm(number) from None
    if not game[1]:
        raise BadForm(len(lines) + 1)
    return tuple([tuple(part) for part in game])


def read_line(game, parts):
    """Add what a line tells to the lists of states, letters, moves and goals of a game."""
    start = parts.peek()
    if start == "":
        return
    parts.take()
    if start == "state":
        add_part(game, 0, take_state(parts))
    elif start == "letter":
        add_part(game, 1, parts.take())
    elif start == "move":
        add_part(game, 2, take_move(parts))
    elif start == "goal":
        add_part(game, 3, take_goal(parts))
    else:
        raise BadForm(1)
    parts.expect_end()


def add_part(game, kind, part):
    """Add a state, letter, move or goal; raise an error if it cannot stand behind what is there."""
    for later in game[kind + 1:]:
        if later:
            raise BadForm(1)
    game[kind].append(part)
    check_beginning(game)


def take_state(parts):
    """Take a state and its player off the parts of a line."""
    state = parts.take()
    player = parts.take()
    if player not in ("0", "1"):
        raise BadForm(1)
    return state, int(player)


def take_move(parts):
    """Take a move off the parts of a line."""
    state = parts.take()
    letter = parts.take()
    parts.expect("to")
    after = parts.take()
    word = []
    while parts.peek() != "":
        word.append(parts.take())
    return state, letter, after, tuple(word)


def take_goal(parts):
    """Take a goal off the parts of a line."""
    state = parts.take()
    empty = parts.peek() != ""
    if empty:
        parts.expect("empty")
    return state, empty
