"""The shortest registers of the beginnings of a row, number by number (J. Massey, 1969)."""

from taprows.integers import inverse
from taprows.recurrence import taps_of_low


class Growth:
    """A row that grows, and its shortest register.

    low is 1 less the taps' terms (point 4), as a list of one number more than the length,
    zeros at its end included. older is the low from ahead of the last jump of the length,
    scaled so that it misses the number there by 1: times x ** shift it misses the next
    number of the row by 1, and none of those ahead of it that the register has to make.
    """

    def __init__(self, prime):
        self.prime = prime
        self.row = []
        self.length = 0
        self.low = [1]
        self.older = [1]
        self.shift = 1

    def expected(self):
        """The number with which the row goes on by the register."""
        products = [number * self.row[-back] for back, number in enumerate(self.low) if back > 0]
        return -sum(products) % self.prime

    def may_jump(self):
        """Whether a number other than the expected one makes the length greater."""
        return 2 * self.length <= len(self.row)

    def take(self, number):
        """Put a number behind the row."""
        missed = (number - self.expected()) % self.prime
        jumps = missed != 0 and self.may_jump()
        ahead = self.low
        if missed != 0:
            self.low = self._corrected(missed)
        self.shift += 1
        if jumps:
            scale = inverse(self.prime, missed)
            self.older = [scale * coefficient % self.prime for coefficient in ahead]
            self.shift = 1
            self.length = len(self.row) + 1 - self.length
        self.row.append(number)

    def taps(self):
        """The taps of the register."""
        return taps_of_low(self.prime, self.low)

    def _corrected(self, missed):
        """The low that no longer misses the next number."""
        low = self.low + [0] * (self.shift + len(self.older) - len(self.low))
        for at, number in enumerate(self.older):
            low[self.shift + at] = (low[self.shift + at] - missed * number) % self.prime
        return low


def grown(prime, row):
    """The growth that has taken a whole row."""
    growth = Growth(prime)
    for number in row:
        growth.take(number)
    return growth


def least_wired(prime, row):
    """The pair (taps, start) of the shortest register that makes a row.

    It makes the endless row, too, if the row has twice as many numbers as some register of the endless row.
    """
    taps = grown(prime, row).taps()
    return taps, tuple(row[:len(taps)])
