"""Steps from stands to those of parts, and the counts that go on along them."""

from pergola.follow import NOT_TURNED, Follow
from pergola.pieces import calls_in
from pergola.stands import MAX_STANDS, one_state_reader
from pergola.table import entry_at, tuples_of


class Steps:
    """The stands for the reader with one state, and all steps between them.

    From each stand there is a list of moves: the number of the stand to
    which a step leads, a tuple with the number of calls of each state for
    each state, and the step. Of several steps with the same numbers there
    the first one stands for all.
    """

    def __init__(self, turner):
        ins, outs, _, sides = turner
        self.signs = ins
        self.all_sides = sides
        self.follow = Follow(turner, one_state_reader(outs, ())[1])
        self.stands, _ = self.follow.all_stands(MAX_STANDS)
        self.stand_numbers = {stand: number for number, stand in enumerate(self.stands)}
        self.starts = [number for number, (_, told) in enumerate(self.stands) if told[0] != NOT_TURNED]
        self.calls_known = {}
        self.moves_from = [[] for _ in self.stands]
        self.find_moves()

    def find_moves(self):
        """Find the moves of all steps."""
        seen = {}
        every = list(range(len(self.stands)))
        for sign, (word, arity) in enumerate(self.signs):
            for stands in tuples_of(every, arity):
                start = self.stand_over(sign, stands)
                for part in range(arity):
                    calls = self.calls_at(sign, stands, part)
                    key = (start, stands[part], calls)
                    if key not in seen:
                        seen[key] = True
                        self.moves_from[start].append((stands[part], calls, (word, stands, part)))

    def stand_over(self, sign, stands):
        """Return the number of the stand that follows for a sign and the numbers of stands."""
        return self.stand_numbers[self.follow.stand(sign, [self.stands[stand] for stand in stands])]

    def calls_at(self, sign, stands, part):
        """Return the tuple that has for each state a tuple with the number of the calls of each state for a part."""
        looks = tuple([self.stands[stand][0] for stand in stands])
        key = (sign, looks, part)
        if key not in self.calls_known:
            sides = [entry_at(entries[sign], looks) for entries in self.all_sides]
            self.calls_known[key] = tuple([calls_for(side, part, len(sides)) for side in sides])
        return self.calls_known[key]

    def is_step(self, step):
        """Return True if a triple of a text, a tuple of integers and an integer is a step."""
        word, stands, part = step
        arity = dict(self.signs).get(word, -1)
        if len(stands) != arity or not 0 <= part < arity:
            return False
        return all([0 <= stand < len(self.stands) for stand in stands])

    def move_of(self, step):
        """Return the numbers of the stands from which and to which a step leads, and its calls as in a move."""
        word, stands, part = step
        sign = [other for other, _ in self.signs].index(word)
        return self.stand_over(sign, stands), stands[part], self.calls_at(sign, stands, part)


def calls_for(side, part, states):
    """Return the tuple of the numbers of the calls of each state for a part in a side."""
    called = [state for state, at in calls_in(side) if at == part]
    return tuple([called.count(state) for state in range(states)])


def counts_along(counts, calls):
    """Return the tuple of the counts that come of others along a step with such calls."""
    found = [0] * len(counts)
    for count, row in zip(counts, calls):
        if count:
            for state, many in enumerate(row):
                found[state] += count * many
    return tuple(found)


def counts_from(state, states):
    """Return the counts with 1 for a state and 0 for all others."""
    return tuple([1 if other == state else 0 for other in range(states)])
