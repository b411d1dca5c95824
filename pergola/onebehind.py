"""Two turners, one behind the other, as one turner, and papers that a turner is one."""

from pergola.both import Both
from pergola.errors import BadPaper, NotAllowed, TooLarge
from pergola.pieces import calls_in, with_calls
from pergola.stands import MAX_STANDS, moves_of_stands
from pergola.table import entry_at, moves_over, tuples_of
from pergola.turners import MAX_TURNING


def one_of(first, second):
    """Return the one turner that does the same as two, one behind the other."""
    return One(first, second).turner()


def one_of_all(turners):
    """Return the one turner of a tuple of turners."""
    one = turners[0]
    for other in turners[1:]:
        one = one_of(one, other)
    return one


def paper_of_one(first, second):
    """Return the right paper for the one turner of two."""
    one = One(first, second)
    return tuple(one.numbers), tuple(one.stands)


class One:
    """The one turner of two: its stands, and the numbers of its pairs, as they are met."""

    def __init__(self, first, second):
        self.both = Both(first, second)
        self.stands, _ = self.both.follow.all_stands(MAX_STANDS)
        self.numbers = {(0, 0): 0}
        self.all_sides = []
        while len(self.all_sides) < len(self.numbers):
            pair = list(self.numbers)[len(self.all_sides)]
            self.all_sides.append(self.sides_of(pair))

    def sides_of(self, pair):
        """Return the entries of a pair, and number the pairs that are met in them."""
        return moves_over(self.both.one[0], self.stands, lambda sign, parts: self.side_over(pair, sign, parts))

    def side_over(self, pair, sign, stands):
        """Return the side of a pair at a sign and stands for its parts."""
        side = self.both.side_of(pair, sign, stands)
        if side is None:
            raise TooLarge("a side has a size above 24")
        for called, _ in calls_in(side):
            self.numbers.setdefault(called, len(self.numbers))
        if len(self.numbers) > MAX_TURNING:
            raise TooLarge("there are more than 8 states")
        return with_calls(side, lambda called, part: (self.numbers[called], part)) if side else side

    def turner(self):
        """Return the one turner."""
        labels = tuple([() for _ in self.stands])
        reader = (labels, moves_of_stands(self.both.follow, self.stands))
        return self.both.one[0], self.both.other[1], reader, tuple(self.all_sides)


def judge_one(first, second, third, paper):
    """Raise BadPaper if a pair of pairs and stands is not a right paper that a third turner does the same as two."""
    both = Both(first, second)
    if third[0] != first[0] or third[1] != second[1]:
        raise NotAllowed("the signs of the third turner do not fit")
    pairs, stands = paper
    _, _, (labels, moves), sides = third
    if len(pairs) != len(sides) or not all([both.is_pair(pair) for pair in pairs]):
        raise BadPaper("there must be a pair for each state")
    if len(stands) != len(labels) or not all([both.is_stand(stand) for stand in stands]):
        raise BadPaper("there must be a stand for each state of the reader")
    if pairs[0] != (0, 0):
        raise BadPaper("the first pair must be that of the states 0")
    for sign, (_, arity) in enumerate(first[0]):
        for looks in tuples_of(list(range(len(stands))), arity):
            parts = [stands[look] for look in looks]
            if both.follow.stand(sign, parts) != stands[entry_at(moves[sign], looks)]:
                raise BadPaper("a stand does not follow")
            for pair, entries in zip(pairs, sides):
                if both.side_of(pair, sign, parts) != with_pairs(entry_at(entries[sign], looks), pairs):
                    raise BadPaper("a side is not the one that both make")


def with_pairs(side, pairs):
    """Return a side whose calls have in the place of a state the pair that it stands for."""
    return with_calls(side, lambda state, part: (pairs[state], part)) if side else side
