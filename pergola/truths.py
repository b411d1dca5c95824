"""The rows of a table with which sayings hold."""

from pergola.bodies import Literal, bits_of, numbered, sign_numbers
from pergola.rows import Rows, RowTries
from pergola.table import row_of
from pergola.terms import names_of


class Node:
    """A saying in its place, with its cells, and the nodes of the sayings that stand directly in it."""

    def __init__(self, saying, cells, parts):
        self.phrase = saying
        self.grid = cells
        self.parts = parts


class Truths:
    """Sayings over a book, in the rows of its table.

    Which rows make a saying hold is told by *cells*, for names in a row of
    which some have rows already and the others, behind them, may have any:
    there is a cell for each way to give rows to the others but the last, in
    ascending order, and in it a bit for each row of the last one. Without
    others there is one cell with one bit.
    """

    def __init__(self, book, table):
        self.rulebook = book
        self.full_table = table
        self.by_sign = sign_numbers(book[0])
        self.world = Rows(book, table)
        self.tries = RowTries(self.world)

    def value(self, tree):
        """Return the value of the row that a tree has."""
        return self.world.all_rows[row_of(self.rulebook[0], self.full_table[1], tree, {})]

    def holds(self, saying, names, values):
        """Return True if a saying holds, given the values of all its free names."""
        return self.cells(saying, names, values) == [1]

    def width(self, many):
        """Return the number of the bits of cells for so many other names."""
        return len(self.world.all_rows) if many else 1

    def cells(self, saying, names, values):
        """Return the cells of a saying; the first names have these values, the others may have any."""
        return self.node_of(saying, names, values).grid

    def node_of(self, saying, names, values):
        """Return the node that a saying is, with all nodes within it, likewise."""
        kind = saying[0]
        many = len(names) - len(values)
        if kind == "at":
            return Node(saying, self.cells_at(saying, names, values), [])
        if kind in ("all", "some"):
            inner = self.node_of(saying[2], [*names, saying[1]], values)
            return Node(saying, self.without_last(kind, inner.grid, many), [inner])
        parts = [self.node_of(part, names, values) for part in saying[1:]]
        return Node(saying, self.cells_over(kind, parts, many), parts)

    def cells_over(self, kind, parts, many):
        """Return the cells of "not", "and" or "or" over nodes; there are so many other names."""
        first = parts[0].grid
        if kind == "not":
            full = (1 << self.width(many)) - 1
            return [full & ~cell for cell in first]
        if kind == "and":
            return [one & other for one, other in zip(first, parts[1].grid)]
        return [one | other for one, other in zip(first, parts[1].grid)]

    def holds_at(self, node, rows):
        """Return True if the saying of a node holds, given the numbers of the rows of its other names."""
        if not rows:
            return node.grid == [1]
        at = 0
        for row in rows[:-1]:
            at = at * len(self.world.all_rows) + row
        return node.grid[at] >> rows[-1] & 1 == 1

    def without_last(self, kind, cells, many):
        """Return the cells behind a quantifier, given those within it; there are so many other names behind it."""
        full = (1 << len(self.world.all_rows)) - 1
        truths = [cell == full for cell in cells] if kind == "all" else [cell != 0 for cell in cells]
        width = self.width(many)
        starts = range(0, len(truths), width)
        return [sum([1 << at for at in range(width) if truths[start + at]]) for start in starts]

    def cells_at(self, saying, names, values):
        """Return the cells of a saying with "at"."""
        _, mark, term = saying
        slots = {name: slot for slot, name in enumerate(names)}
        used = [slots[name] for name in names_of(term)]
        last = max([len(values) - 1, *used])
        bit = bits_of(self.rulebook[1], (mark,))
        term = numbered(self.by_sign, term, slots)
        self.tries.begin_anew()
        if last < len(values):
            cells = [self.tries.where(Literal(True, bit, term, -1), values) & 1]
        else:
            cells = self.spread(Literal(True, bit, term, last), values, used, last)
        for many in range(last + 1, len(names)):
            cells = self.with_another(cells, many - len(values))
        return cells

    def spread(self, literal, values, used, last):
        """Return the cells of a literal whose last slot is this one, given the values of the first slots."""
        slot = len(values)
        if slot == last:
            return [self.tries.where(literal, values)]
        if slot not in used:
            return self.spread(literal, [*values, 0], used, last) * len(self.world.all_rows)
        cells = []
        for value in self.world.all_rows:
            cells.extend(self.spread(literal, [*values, value], used, last))
        return cells

    def with_another(self, cells, many):
        """Return the cells with one more name behind so many others, on which nothing hangs."""
        full = (1 << len(self.world.all_rows)) - 1
        width = range(self.width(many))
        return [full if cell >> at & 1 else 0 for cell in cells for at in width]

    def rows_in(self, cells, many):
        """Return the list of the tuples of numbers of rows that cells for so many names tell."""
        found = []
        for at, cell in enumerate(cells):
            if cell:
                found.extend(self.rows_in_cell(at, cell, many))
        return found

    def first_row(self, cells, many):
        """Return the first tuple of numbers of rows that cells for so many names tell, and None if there is none."""
        for at, cell in enumerate(cells):
            if cell:
                return self.rows_in_cell(at, cell, many)[0]
        return None

    def rows_in_cell(self, at, cell, many):
        """Return the list of the tuples of numbers of rows that the cell with this index tells."""
        if many == 0:
            return [()]
        front = []
        for _ in range(many - 1):
            at, row = divmod(at, len(self.world.all_rows))
            front.append(row)
        front.reverse()
        return [(*front, row) for row in range(len(self.world.all_rows)) if cell >> row & 1]
