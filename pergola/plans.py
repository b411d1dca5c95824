"""Plays of games on a stack, with a plan for the player who wins."""

from pergola.errors import Missing
from pergola.games import BOTTOM, is_goal, options_at, winner
from pergola.ranks import Ranks


class Plan:
    """A play of a game that begins at a position.

    The letters stand in a list, the lowest one first. Beside them stand the
    sets of the states from which player 0 wins with the letters below each
    of them, and as long as it wins, the exits of its plan for each letter.
    """

    def __init__(self, game, state, stack):
        # This raises the errors that are due.
        winner(game, state, stack)
        self.game = game
        self.plans = Ranks(game)
        self.state = state
        self.letters = []
        self.below = [self.won_at_bottom()]
        self.push(stack)
        self.exits = self.below[:-1]

    def won_at_bottom(self):
        """Return the set of the states from which player 0 wins with the empty stack."""
        won = [player == 1 or is_goal(self.game, state, BOTTOM) for state, player in self.game[0]]
        return sum([1 << at for at, yes in enumerate(won) if yes])

    def push(self, word):
        """Put letters, the top one first, on top of the stack."""
        for letter in word[::-1]:
            self.letters.append(letter)
            self.below.append(self.plans.lesser(self.plans.many_rounds, letter, self.below[-1]))

    def top(self):
        """Return the top letter, or the bottom."""
        return self.letters[-1] if self.letters else BOTTOM

    def position(self):
        """Return the state and the stack, the top letter first."""
        return self.state, tuple(self.letters[::-1])

    def winner(self):
        """Return the player who wins from the position."""
        return 0 if self.below[-1] >> self.plans.places[self.state] & 1 else 1

    def options(self):
        """Return the list of the indexes of the moves that are possible."""
        return options_at(self.game, self.state, self.top())

    def advice(self):
        """Return the index of the move of the plan for the player whose turn it is, and who wins."""
        player = self.plans.players[self.state]
        if self.winner() == player:
            for index in self.options():
                if self.is_good(index, player):
                    return index
        raise Missing("the game is over, or the other player wins")

    def is_good(self, index, player):
        """Return True if a move of this player, who wins, is one of their plan."""
        if player == 0:
            return self.exits_behind(index) is not None
        return not self.won_behind(index)

    def won_behind(self, index):
        """Return True if player 0 wins from the position behind a move."""
        _, _, after, word = self.game[2][index]
        won = self.below[-2]
        for letter in word[::-1]:
            won = self.plans.lesser(self.plans.many_rounds, letter, won)
        return won >> self.plans.places[after] & 1 == 1

    def exits_behind(self, index):
        """Return the exits of the letters of a move's word, the lowest first; None if the plan does not go on so."""
        _, _, after, word = self.game[2][index]
        exits = self.exits[-1]
        rank = self.plans.rank(self.state, self.top(), exits)
        if not word:
            return [] if exits >> self.plans.places[after] & 1 else None
        found = [exits]
        if len(word) == 2:
            found.append(self.plans.lesser(rank, word[1], exits))
        return found if 0 <= self.plans.rank(after, word[0], found[-1]) < rank else None

    def play(self, index):
        """Make a move."""
        if index not in self.options():
            raise Missing("this move is not possible")
        _, _, after, word = self.game[2][index]
        exits = self.exits_behind(index) if self.winner() == 0 else None
        self.state = after
        self.letters.pop()
        self.below.pop()
        self.push(word)
        if exits is None:
            # The plan begins anew, if player 0 wins now.
            self.exits = self.below[:-1]
        else:
            self.exits.pop()
            self.exits.extend(exits)

    def ranks(self):
        """Return the list of the ranks of the letters, from the top."""
        if self.winner() == 1:
            return []
        ranks = []
        among = 1 << self.plans.places[self.state]
        for letter, exits in zip(self.letters[::-1], self.exits[::-1]):
            ranks.append(self.plans.greatest(among, letter, exits))
            among = exits
        return ranks
