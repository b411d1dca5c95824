"""In which states player 0 wins with a letter on top of a stack, and how far it is from there."""

from pergola.games import is_goal, moves_with


class Ranks:
    """The states from which player 0 wins with a letter, and the rounds in which this is found.

    It is found for each letter and all sets of *exits*: states from which it
    is enough to come to what is under the letter, once the letter is gone. A
    set is an integer with a bit for each state. The *rank* of a state, with
    a letter and exits, is the first round in which player 0 is known to win
    from it, by what was known before this round. A letter on top of another
    one has as its exits the states of lesser ranks with that one. So where
    player 0 goes by the ranks, they get less for the letters that a move
    writes, and not greater for those below.
    """

    def __init__(self, game):
        states, letters, moves, _ = game
        self.game = game
        self.players = dict(states)
        self.many = 1 << len(states)
        self.places = {state: at for at, (state, _) in enumerate(states)}
        self.pairs = [(state, letter) for state, _ in states for letter in letters]
        self.moves = {pair: [moves[index] for index in moves_with(moves, *pair)] for pair in self.pairs}
        # For each state and letter, a bit for each set of exits.
        self.won = {pair: 0 for pair in self.pairs}
        self.rounds = {pair: [-1] * self.many for pair in self.pairs}
        self.settle()

    def settle(self):
        """Go on, round by round, until nothing more is found."""
        number = 0
        before = {}
        while before != self.won:
            before = self.won
            sets = self.sets_won()
            self.won = {pair: before[pair] | self.won_by_move(pair, sets) for pair in self.pairs}
            for pair in self.pairs:
                self.note(pair, self.won[pair] & ~before[pair], number)
            number += 1
        self.many_rounds = number

    def note(self, pair, found, number):
        """Note the round in which player 0 was found to win, for all sets of exits that have a bit."""
        while found:
            low = found & -found
            self.rounds[pair][low.bit_length() - 1] = number
            found -= low

    def sets_won(self):
        """Return a dict with a list for each letter: with each set of exits, the states from which it is won."""
        sets = {}
        for letter in self.game[1]:
            sets[letter] = [self.states_won(letter, exits) for exits in range(self.many)]
        return sets

    def states_won(self, letter, exits):
        """Return the set of the states from which player 0 is known to win with a letter and exits."""
        return sum([1 << at for state, at in self.places.items() if self.won[(state, letter)] >> exits & 1])

    def won_by_move(self, pair, sets):
        """Return a bit for each set of exits with which a state and a letter are won by what is known."""
        state, letter = pair
        full = (1 << self.many) - 1
        if is_goal(self.game, state, letter):
            return full
        ways = [self.won_behind(move, sets) for move in self.moves[pair]]
        if self.players[state] == 1:
            bits = full
            for way in ways:
                bits &= way
            return bits
        bits = 0
        for way in ways:
            bits |= way
        return bits

    def won_behind(self, move, sets):
        """Return a bit for each set of exits with which what is behind a move is known to be won."""
        _, _, after, word = move
        if not word:
            return sum([1 << exits for exits in range(self.many) if exits >> self.places[after] & 1])
        won = self.won[(after, word[0])]
        if len(word) == 1:
            return won
        return sum([1 << exits for exits, inner in enumerate(sets[word[1]]) if won >> inner & 1])

    def rank(self, state, letter, exits):
        """Return the rank of a state, and -1 if player 0 does not win from it."""
        return self.rounds[(state, letter)][exits]

    def greatest(self, among, letter, exits):
        """Return the greatest rank of the states of a set."""
        ranks = [self.rank(state, letter, exits) for state, at in self.places.items() if among >> at & 1]
        return max(ranks, default=0)

    def lesser(self, rank, letter, exits):
        """Return the set of the states with ranks less than this one."""
        return sum([1 << at for state, at in self.places.items() if 0 <= self.rank(state, letter, exits) < rank])
