"""Sayings turned, the first fillings of sayings, and plays about sayings."""

from pergola.errors import Missing, NotAllowed, TooLarge
from pergola.sayings import MAX_NODES, check_free, check_names, free_names
from pergola.table import table_of
from pergola.terms import is_tree
from pergola.truths import Truths

OPPOSITE = {"and": "or", "or": "and", "all": "some", "some": "all"}


def turned(saying):
    """Return the turned form of a saying."""
    form = turned_form(saying, True)
    if nodes_in(form) > MAX_NODES:
        raise TooLarge("the turned form has more than 60 nodes")
    return form


def turned_form(saying, yes):
    """Return the turned form of a saying, or if `yes` is False that of "not" around it."""
    kind = saying[0]
    if kind == "at":
        return saying if yes else ("not", saying)
    if kind == "not":
        return turned_form(saying[1], not yes)
    shown = kind if yes else OPPOSITE[kind]
    if kind in ("all", "some"):
        return (shown, saying[1], turned_form(saying[2], yes))
    return (shown, turned_form(saying[1], yes), turned_form(saying[2], yes))


def nodes_in(saying):
    """Return the number of the nodes of a saying."""
    return 1 + sum([nodes_in(part) for part in sayings_in(saying)])


def sayings_in(saying):
    """Return the tuple of the sayings that stand directly in a saying."""
    kind = saying[0]
    if kind == "at":
        return ()
    return saying[2:] if kind in ("all", "some") else saying[1:]


def least_filling(book, saying, names):
    """Return the trees of the first filling of names under which a saying holds, or None."""
    check_names(book, saying, names)
    check_free(saying, names)
    truths = Truths(book, table_of(book))
    return first_trees(truths, truths.cells(saying, names, []), len(names))


def parting(book, first, second, names):
    """Return the trees of the first filling of names under which just one of two sayings holds, or None."""
    for saying in [first, second]:
        check_names(book, saying, names)
    for saying in [first, second]:
        check_free(saying, names)
    truths = Truths(book, table_of(book))
    ones = truths.cells(first, names, [])
    others = truths.cells(second, names, [])
    return first_trees(truths, [one ^ other for one, other in zip(ones, others)], len(names))


def first_trees(truths, cells, many):
    """Return the list of the least trees of the first rows that cells for so many names tell, or None."""
    # Rows stand in the order of their least trees.
    rows = truths.first_row(cells, many)
    return None if rows is None else [truths.full_table[2][row] for row in rows]


class Play:
    """A play of two players about a saying under a filling."""

    def __init__(self, book, saying, filling):
        check_free(saying, filling)
        self.signs = book[0]
        self.truths = Truths(book, table_of(book))
        self.made = []
        self.places = []
        self.enter(saying, 0, filling)

    def enter(self, saying, side, trees):
        """Go on with a saying for which this player stands, under these trees for its free names."""
        while saying[0] == "not":
            saying = saying[1]
            side = 1 - side
        self.places.append((saying, side, {name: trees[name] for name in free_names(saying)}))

    def saying(self):
        """Return the saying that the play stands at."""
        return self.places[-1][0]

    def filling(self):
        """Return a dict of the trees that the free names of this saying stand for."""
        return dict(self.places[-1][2])

    def side(self):
        """Return the player who stands for this saying."""
        return self.places[-1][1]

    def turn(self):
        """Return the player who has to choose, and -1 if the play is over."""
        saying, side, _ = self.places[-1]
        if saying[0] == "at":
            return -1
        return 1 - side if saying[0] in ("and", "all") else side

    def choose(self, choice):
        """Make the choice of the player who has to choose."""
        saying, side, trees = self.places[-1]
        if saying[0] in ("and", "or") and choice in (0, 1):
            self.enter(saying[1 + choice], side, trees)
        elif saying[0] in ("all", "some") and isinstance(choice, tuple) and is_tree(self.signs, choice):
            self.enter(saying[2], side, {**trees, saying[1]: choice})
        else:
            raise NotAllowed("this cannot be chosen here")
        self.made.append(choice)

    def choices(self):
        """Return the list of the choices that were made and not taken back."""
        return list(self.made)

    def back(self):
        """Take the last choice back."""
        if not self.made:
            raise Missing("no choice was made")
        self.made.pop()
        self.places.pop()

    def winner(self):
        """Return the player who can win, or has won."""
        saying, side, trees = self.places[-1]
        return side if self.cells(saying, trees, []) == [1] else 1 - side

    def advice(self):
        """Return the least choice with which the player who has to choose still can win, or None."""
        saying, side, trees = self.places[-1]
        if saying[0] == "at":
            return None
        yes = self.turn() == side
        if saying[0] in ("all", "some"):
            cells = self.cells(saying[2], trees, [saying[1]])
            if not yes:
                cells = [~cell & (1 << self.truths.width(1)) - 1 for cell in cells]
            found = first_trees(self.truths, cells, 1)
            return None if found is None else found[0]
        for choice in (0, 1):
            if (self.cells(saying[1 + choice], trees, []) == [1]) == yes:
                return choice
        return None

    def cells(self, saying, trees, names):
        """Return the cells of a saying under some trees, where other names may have any row."""
        values = [self.truths.value(tree) for tree in trees.values()]
        return self.truths.cells(saying, [*trees, *names], values)
