"""Vectors of integers, and which of them are sums of multiples of others."""

from math import gcd


def shortened(row):
    """Return a row of integers divided by their greatest common divisor."""
    common = 0
    for number in row:
        common = gcd(common, number)
    return [number // common for number in row] if common > 1 else row


class Span:
    """The vectors that are sums of multiples, by ratios, of some vectors of the same length.

    A *row* is a vector with as many integers more as vectors are told of:
    how often each of these is in a multiple of the vector. Each row has a
    place in which it is not 0, its pivot, and all later rows are.
    """

    def __init__(self, length):
        self.length = length
        self.many = 0
        self.rows = []
        self.pivots = []

    def reduced(self, vector):
        """Return a vector with the multiples of the rows taken off, and how often it and the vectors are in that."""
        row = [*vector, *[0] * self.many, 1]
        for pivot, other in zip(self.pivots, self.rows):
            if row[pivot]:
                longer = [*other, *[0] * (len(row) - len(other))]
                row = shortened([longer[pivot] * one - row[pivot] * two for one, two in zip(row, longer)])
        return row

    def adds(self, vector):
        """Take a vector in if it is no sum of multiples of those that were taken in; return True if it was taken in."""
        row = self.reduced(vector)
        pivots = [at for at in range(self.length) if row[at]]
        if not pivots:
            return False
        self.rows.append(row)
        self.pivots.append(pivots[0])
        self.many += 1
        return True

    def ratios(self, vector):
        """Return the tuple of the ratios with which the vectors that were taken in sum up to one in their span."""
        row = self.reduced(vector)
        whole = row[-1]
        return tuple([ratio(-many, whole) for many in row[self.length:-1]])


def ratio(above, below):
    """Return a pair of integers in lowest terms, the second one at least 1."""
    common = gcd(above, below)
    if below < 0:
        common = -common
    return above // common, below // common
