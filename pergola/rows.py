"""The rows of a table as a world, in which literals are tried with all rows at once."""

from pergola.bodies import HOLE, MARK_BITS, Tries, bits_of


class Rows:
    """The rows of a table as a world: a value has the number of a row and its marks."""

    def __init__(self, book, table):
        rows, moves, _ = table
        self.moves = moves
        self.all_rows = [number << MARK_BITS | bits_of(book[1], row) for number, row in enumerate(rows)]

    def step(self, sign, parts):
        """Return the value of the row that the moves tell."""
        entry = self.moves[sign]
        for part in parts:
            entry = entry[part >> MARK_BITS]
        return self.all_rows[entry]


class RowTries(Tries):
    """Bodies tried in the world of the rows of a table, with each row for a further name.

    A *line* is a tuple that has for each row the row that a term has if the
    name in the hole of its shape stands for that row.
    """

    def __init__(self, world):
        Tries.__init__(self, world, world.all_rows)
        self.every = tuple(range(len(world.all_rows)))
        self.turned_moves = {}
        self.bits_told = {}

    def begin_anew(self):
        """Forget what came out for the literals so far, but not what any literal may ask for."""
        self.columns = {}

    def holding(self, literal, values, key):
        """Return the bits of those rows in the hole of a literal with which it holds."""
        line = self.line_of(literal.shape, [value >> MARK_BITS for value in values])
        told = (literal.yes, literal.bit, line)
        # Not many lines are different ones.
        if told not in self.bits_told:
            fits = [literal.fits(self.world.all_rows[row]) for row in line]
            self.bits_told[told] = sum([1 << at for at, yes in enumerate(fits) if yes])
        return self.bits_told[told]

    def line_of(self, shape, rows):
        """Return the line of a shape, given the rows of its fixed parts; for one of these parts it is just its row."""
        if shape == HOLE:
            return self.every
        if isinstance(shape, int):
            return rows[shape]
        entry = self.world.moves[shape[0]]
        parts = [self.line_of(part, rows) for part in shape[1:]]
        if len(parts) == 1:
            return through(entry, shape[1], parts[0])
        first, second = parts
        if isinstance(first, int):
            return through(entry[first], shape[2], second)
        if isinstance(second, int):
            return through(self.turned_entry(shape[0])[second], shape[1], first)
        return tuple([entry[one][other] for one, other in zip(first, second)])

    def turned_entry(self, sign):
        """Return the entry of a sign of the arity 2 with its parts exchanged."""
        if sign not in self.turned_moves:
            entry = self.world.moves[sign]
            self.turned_moves[sign] = tuple(zip(*entry))
        return self.turned_moves[sign]


def through(entry, shape, line):
    """Return the line of a sign over one of this shape, which has this line; the entry is the one for that part."""
    if shape == HOLE:
        return entry
    return tuple([entry[row] for row in line])
