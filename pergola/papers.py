"""Papers that show that a saying holds, or that it does not."""

from pergola.errors import BadPaper, TooLarge
from pergola.sayings import check_free, free_names
from pergola.table import table_of
from pergola.truths import Truths

MAX_PAPER = 3000


def paper_of(book, saying, filling):
    """Return whether a saying holds under a filling, and the paper that shows it."""
    writer = Writer(book, saying, filling)
    yes = writer.truths.holds_at(writer.whole, ())
    return yes, writer.paper(writer.whole, yes, ())


def judge_paper(book, saying, filling, yes, paper):
    """Raise BadPaper if a tuple is not a paper for a saying under a filling."""
    writer = Writer(book, saying, filling)
    writer.judge(writer.whole, yes, (), paper)


def is_for_all(kind, yes):
    """Return True if a paper has papers for all parts, and not only for one of them."""
    return (kind in ("and", "all")) == yes


class Writer:
    """Writes and judges papers for a saying under a filling.

    The names of the quantifiers around a node have rows, from the outermost
    quantifier to the innermost one.
    """

    def __init__(self, book, saying, filling):
        check_free(saying, filling)
        names = free_names(saying)
        self.truths = Truths(book, table_of(book))
        self.whole = self.truths.node_of(saying, names, [self.truths.value(filling[name]) for name in names])
        self.every = list(range(len(self.truths.world.all_rows)))
        self.written = 0

    def paper(self, node, yes, rows):
        """Return the paper for a node that holds, or does not hold if `yes` is False, with these rows."""
        kind = node.phrase[0]
        if kind == "not":
            return self.paper(node.parts[0], not yes, rows)
        self.written += 1
        if self.written > MAX_PAPER:
            raise TooLarge("the paper has more than 3000 tuples")
        if kind == "at":
            return ()
        parts = self.parts_of(node, rows)
        if is_for_all(kind, yes):
            word = "both" if kind in ("and", "or") else "each"
            return (word, *[self.paper(part, yes, inner) for part, inner in parts])
        word = "one" if kind in ("and", "or") else "take"
        number = [self.truths.holds_at(part, inner) for part, inner in parts].index(yes)
        part, inner = parts[number]
        return word, number, self.paper(part, yes, inner)

    def parts_of(self, node, rows):
        """Return the list of the nodes of which one or all are to be shown, each with its rows."""
        if len(node.parts) == 2:
            return [(part, rows) for part in node.parts]
        return [(node.parts[0], (*rows, row)) for row in self.every]

    def judge(self, node, yes, rows, paper):
        """Raise BadPaper if an integer or a tuple is not a paper for a node with these rows."""
        kind = node.phrase[0]
        if kind == "not":
            self.judge(node.parts[0], not yes, rows, paper)
            return
        if not isinstance(paper, tuple):
            raise BadPaper("there is a number where there should be a tuple")
        if kind == "at":
            if paper != () or self.truths.holds_at(node, rows) != yes:
                raise BadPaper("this does not hold, or there is more to it than the empty tuple")
            return
        parts = self.parts_of(node, rows)
        if is_for_all(kind, yes):
            self.judge_all(kind, parts, yes, paper)
        else:
            self.judge_one(kind, parts, yes, paper)

    def judge_all(self, kind, parts, yes, paper):
        """Raise BadPaper if a tuple has not just a paper for each of the parts."""
        word = "both" if kind in ("and", "or") else "each"
        if len(paper) != 1 + len(parts) or paper[0] != word:
            raise BadPaper("there must be a paper for each part")
        for (part, rows), inner in zip(parts, paper[1:]):
            self.judge(part, yes, rows, inner)

    def judge_one(self, kind, parts, yes, paper):
        """Raise BadPaper if a tuple does not have the number of one of the parts, and a paper for it."""
        word = "one" if kind in ("and", "or") else "take"
        if len(paper) != 3 or paper[0] != word:
            raise BadPaper("there must be a number and a paper")
        _, number, inner = paper
        if not isinstance(number, int) or not 0 <= number < len(parts):
            raise BadPaper("there is no part with this number")
        part, rows = parts[number]
        self.judge(part, yes, rows, inner)
