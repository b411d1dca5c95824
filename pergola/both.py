"""What two turners make together, one behind the other, at one sign."""

from pergola.errors import NotAllowed
from pergola.follow import NOT_TURNED, Follow
from pergola.pieces import calls_in, is_call, size_over, with_calls
from pergola.table import entry_at
from pergola.turners import MAX_PIECE


class Both:
    """Two turners, one behind the other; their states are pairs of a state of either one."""

    def __init__(self, first, second):
        if first[1] != second[0]:
            raise NotAllowed("the signs of the turners do not fit")
        self.one = first
        self.other = second
        self.places = {sign: place for place, (sign, _) in enumerate(second[0])}
        self.follow = Follow(first, second[2][1])

    def is_pair(self, pair):
        """Return True if two integers are a state of the first and one of the second turner."""
        state, other = pair
        return 0 <= state < len(self.one[3]) and 0 <= other < len(self.other[3])

    def is_stand(self, stand):
        """Return True if an integer and a tuple of integers are a stand, maybe of no tree."""
        look, told = stand
        if not 0 <= look < len(self.one[2][0]) or len(told) != len(self.one[3]):
            return False
        return all([NOT_TURNED <= state < len(self.other[2][0]) for state in told])

    def side_of(self, pair, sign, stands):
        """Return the side of a pair at the sign with this number and stands for its parts.

        A call in it has a pair in the place of its state. None is returned
        for a side of a size above MAX_PIECE.
        """
        state, other = pair
        side = entry_at(self.one[3][state][sign], [look for look, _ in stands])
        if not side or NOT_TURNED in [stands[part][1][called] for called, part in calls_in(side)]:
            return ()
        return Behind(self, side, stands).make(other)


class Behind:
    """The pieces of a side of the first turner, in a list, each ahead of those within it, for the second turner.

    For each piece there are the indexes of its parts, its state by the
    reader of the second turner, and the states of this turner that are to
    make something of it, as a dict with their sides.
    """

    def __init__(self, both, side, stands):
        self.both = both
        self.pieces = [side]
        self.inner = []
        while len(self.inner) < len(self.pieces):
            piece = self.pieces[len(self.inner)]
            parts = () if is_call(piece) else piece[1:]
            self.inner.append(list(range(len(self.pieces), len(self.pieces) + len(parts))))
            self.pieces.extend(parts)
        self.looks = [0] * len(self.pieces)
        for at in range(len(self.pieces) - 1, -1, -1):
            self.looks[at] = self.look_at(at, stands)
        self.asked = [{} for _ in self.pieces]

    def look_at(self, at, stands):
        """Return the state of a piece by the second turner's reader, when those of its parts are known."""
        piece = self.pieces[at]
        if is_call(piece):
            return stands[piece[1]][1][piece[0]]
        entry = self.both.other[2][1][self.both.places[piece[0]]]
        return entry_at(entry, [self.looks[part] for part in self.inner[at]])

    def make(self, state):
        """Return what a state of the second turner makes of the side, and None if it is too large."""
        if not self.ask(state):
            return ()
        sizes = self.over_all(lambda at, other: 1, size_over)
        if sizes[0][state] > MAX_PIECE:
            return None
        made = self.over_all(self.call_for, filled)
        return made[0][state]

    def ask(self, state):
        """Find what the states are to make of the pieces; return False if a side for this is empty."""
        self.asked[0][state] = ()
        for at, piece in enumerate(self.pieces):
            for other in list(self.asked[at]):
                if not is_call(piece):
                    side = self.side_at(at, other)
                    if not side:
                        return False
                    self.asked[at][other] = side
                    for called, part in calls_in(side):
                        self.asked[self.inner[at][part]].setdefault(called, ())
        return True

    def side_at(self, at, state):
        """Return the side of a state of the second turner at a piece that is no call."""
        entry = self.both.other[3][state][self.both.places[self.pieces[at][0]]]
        return entry_at(entry, [self.looks[part] for part in self.inner[at]])

    def call_for(self, at, state):
        """Return the call that a state of the second turner makes of a call."""
        called, part = self.pieces[at]
        return ((called, state), part)

    def over_all(self, of_call, of_side):
        """Work something out for all pieces and the states that are asked; return a list of dicts.

        `of_call(at, state)` tells it for a call, `of_side(side, parts)` for a
        side, given the list of what came out for the parts.
        """
        found = [{} for _ in self.pieces]
        for at in range(len(self.pieces) - 1, -1, -1):
            parts = [found[part] for part in self.inner[at]]
            for state, side in self.asked[at].items():
                found[at][state] = of_side(side, parts) if side else of_call(at, state)
        return found


def filled(side, parts):
    """Return a side with what the states make of the parts in the places of its calls."""
    return with_calls(side, lambda state, part: parts[part][state])
