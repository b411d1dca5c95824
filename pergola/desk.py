"""The desk: scripts that ask about a store and a game, line by line."""

from pergola.bookreader import read_rule
from pergola.counts import count_with, place_of, tree_at
from pergola.errors import BadForm, Broken, Missing, NotAllowed, TooLarge
from pergola.games import winner
from pergola.gametexts import read_game
from pergola.lines import read_command
from pergola.plays import least_filling
from pergola.readers import least_reader
from pergola.sayings import free_names, holds
from pergola.sayingtexts import read_saying
from pergola.store import Store
from pergola.terms import is_tree
from pergola.texts import read_term, term_text

MAX_SCRIPT = 4000
MAX_LINES = 60


def marks_text(marks):
    """Return the text of some marks."""
    return " ".join(marks) if marks else "-"


def answer_begin(desk, signs, marks):
    """Begin a new store."""
    desk.store = Store(signs, marks)
    return "ok"


def answer_rule(desk, text):
    """Add a rule."""
    return str(desk.store.add(read_rule(desk.store.signs, desk.store.marks, text)))


def answer_drop(desk, number):
    """Drop a rule."""
    desk.store.drop(number)
    return "ok"


def answer_keep(desk, text):
    """Keep a saying."""
    return str(desk.store.keep(desk.saying_of(text)))


def answer_let(desk, number):
    """Keep a saying no longer."""
    desk.store.let(number)
    return "ok"


def answer_undo(desk):
    """Take the last change back."""
    desk.store.undo()
    return "ok"


def answer_since(desk, point):
    """Tell the first tree with another row than at a point."""
    tree = desk.store.since(point)
    return "no" if tree is None else term_text(tree)


def answer_ask(desk, text):
    """Tell whether a saying holds."""
    return "yes" if holds(desk.store.book(), desk.saying_of(text), {}) else "no"


def answer_find(desk, text):
    """Tell the first filling of a saying."""
    saying = desk.saying_of(text)
    names = free_names(saying)
    trees = least_filling(desk.store.book(), saying, names)
    if trees is None:
        return "no"
    return ", ".join([f"{name} = {term_text(tree)}" for name, tree in zip(names, trees)]) if names else "-"


def answer_marks(desk, text):
    """Tell the marks of a tree."""
    return marks_text(desk.store.row(desk.tree_of(text)))


def answer_rows(desk):
    """Tell the number of the rows."""
    return str(len(desk.store.table_now()[0]))


def answer_row(desk, number):
    """Tell a row and its least tree."""
    rows, _, trees = desk.store.table_now()
    if number >= len(rows):
        raise Missing("there is no such row")
    return f"{marks_text(rows[number])} : {term_text(trees[number])}"


def answer_reader(desk, *marks):
    """Tell the number of the states of the least reader of some marks."""
    labels, _ = least_reader(desk.store.book(), marks)
    return str(len(labels))


def answer_count(desk, mark, size):
    """Tell the number of the trees of a size with a mark."""
    return str(count_with(desk.store.book(), mark, size))


def answer_tree(desk, mark, size, index):
    """Tell one of the trees of a size with a mark."""
    return term_text(tree_at(desk.store.book(), mark, size, index))


def answer_place(desk, mark, text):
    """Tell the number of a tree among those of its size with a mark."""
    return str(place_of(desk.store.book(), mark, desk.tree_of(text)))


def answer_game(desk, text):
    """Read a game."""
    desk.game = read_game(text.replace(";", "\n"))
    return "ok"


def answer_win(desk, *words):
    """Tell who wins from a state with a stack."""
    if not words:
        raise Missing("there is no state")
    return str(winner(desk.game, words[0], words[1:]))


ANSWERS = {
    "begin": answer_begin,
    "rule": answer_rule,
    "drop": answer_drop,
    "keep": answer_keep,
    "let": answer_let,
    "undo": answer_undo,
    "since": answer_since,
    "ask": answer_ask,
    "find": answer_find,
    "marks": answer_marks,
    "rows": answer_rows,
    "row": answer_row,
    "reader": answer_reader,
    "count": answer_count,
    "tree": answer_tree,
    "place": answer_place,
    "game": answer_game,
    "win": answer_win,
}


class Desk:
    """A desk, with a store as soon as one has been begun, and a game as soon as one has been read."""

    def __init__(self):
        self.store = None
        self.game = None

    def answer(self, line):
        """Return the answer to a line."""
        command = read_command(line)
        if command is None:
            return "bad"
        if command == ():
            return ""
        if self.lacks(command):
            return "none"
        word, *rest = command
        asked = ANSWERS[word]
        try:
            return asked(self, *rest)
        except NotAllowed:
            return "refused"
        except BadForm:
            return "form"
        except Missing:
            return "missing"
        except TooLarge:
            return "large"
        except Broken as e:
            return f"broken {e.number}"

    def lacks(self, command):
        """Return True if there is not the store, or the game, that a command is about."""
        if command[0] == "win":
            return self.game is None and len(command) > 1
        return self.store is None and command[0] not in ("begin", "game")

    def saying_of(self, text):
        """Return the saying of a text, over the book of the store."""
        return read_saying(self.store.signs, self.store.marks, text)

    def tree_of(self, text):
        """Return the tree of a text, over the signs of the store."""
        term = read_term(self.store.signs, text)
        if not is_tree(self.store.signs, term):
            raise NotAllowed("this term is not a tree")
        return term


def run_script(script):
    """Run the lines of a script on a new desk; return the list of the answers."""
    lines = script.split("\n")
    if len(script) > MAX_SCRIPT or len(lines) > MAX_LINES:
        raise NotAllowed("a script must have at most 4000 characters and 60 lines")
    desk = Desk()
    return [desk.answer(line) for line in lines]
