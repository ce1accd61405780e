"""The greatest sum of counts that bounds allow, and the least prices that show that none is greater.

There are things, each of which takes one of the room in some bins; each bin has so much room. The counts of the things,
which may be shares, are moved by exchanging, one after another, a thing or the spare room of a bin, which is nothing at
the moment, for one that is something: at the end no exchange makes the sum greater. All is done in whole numbers: each
row tells something exactly, so many times.
"""

from math import gcd


class Scales:
    """Rows that tell what is something at the moment by what is nothing."""

    def __init__(self, bins, rooms, many):
        # Names: the things are called by their places, the spare room of a bin by its place behind them.
        self.many = many
        self.nothing = list(range(many))
        self.something = list(range(many, many + len(bins)))
        self.rows = [[1 if thing in things else 0 for thing in range(many)] + [room]
                     for things, room in zip(bins, rooms)]
        self.times = [1 for _ in bins]
        # The last row tells how much less the sum is than it may be.
        self.goal = [-1 for _ in range(many)] + [0]
        self.goal_times = 1

    def balance(self):
        """Exchanges until the sum is as great as can be."""
        careful = False
        column = self.column(careful)
        while column is not None:
            row = self.row(column)
            # Without care an exchange that gains nothing might come again and again.
            careful = self.rows[row][-1] == 0
            self.exchange(row, column)
            column = self.column(careful)

    def column(self, careful):
        """Where something stands that makes the sum greater; None if nothing does."""
        better = [(self.nothing[at] if careful else number, at)
                  for at, number in enumerate(self.goal[:-1]) if number < 0]
        return min(better)[1] if better else None

    def row(self, column):
        """The row that first comes down to nothing when what stands in the column grows."""
        best = None
        for at, row in enumerate(self.rows):
            if row[column] > 0:
                if best is None or self.comes_first(at, best, column):
                    best = at
        return best

    def comes_first(self, at, best, column):
        here = self.rows[at][-1] * self.rows[best][column]
        there = self.rows[best][-1] * self.rows[at][column]
        return here < there or here == there and self.something[at] < self.something[best]

    def exchange(self, row, column):
        """Makes nothing of what the row tells, and something of what stands in the column."""
        chosen = self.rows[row]
        factor = chosen[column]
        old = self.times[row]
        for at in range(len(self.rows)):
            if at != row and self.rows[at][column] != 0:
                self.rows[at], self.times[at] = less_by(self.rows[at], self.times[at], chosen, factor, column, old)
        self.goal, self.goal_times = less_by(self.goal, self.goal_times, chosen, factor, column, old)
        self.rows[row] = chosen[:column] + [old] + chosen[column + 1:]
        self.times[row] = factor
        self.nothing[column], self.something[row] = self.something[row], self.nothing[column]

    def counts(self):
        """For each thing a pair of its count and how many times this is told."""
        found = [(0, 1) for _ in range(self.many)]
        for name, row, times in zip(self.something, self.rows, self.times):
            if name < self.many:
                found[name] = (row[-1], times)
        return found

    def prices(self):
        """For each bin the price of its room, and how many times each is told."""
        found = [0 for _ in self.rows]
        for name, number in zip(self.nothing, self.goal[:-1]):
            if name >= self.many:
                found[name - self.many] = number
        return (found, self.goal_times)


def less_by(row, times, chosen, factor, column, old):
    """The row without what stands in the column, for which the chosen row is taken, and its times; in least numbers."""
    amount = row[column]
    found = [number * factor - amount * other for number, other in zip(row, chosen)]
    found[column] = -amount * old
    common = times * factor
    for number in found:
        if common == 1:
            break
        common = gcd(common, number)
    return ([number // common for number in found], times * factor // common)
