"""Rows that go on by taps, without checks of the arguments."""

from taprows.coefficients import trimmed


def next_number(prime, taps, row):
    """The number that taps put behind a row with at least as many numbers as they are."""
    return sum([tap * row[-1 - at] for at, tap in enumerate(taps)]) % prime


def first_numbers(prime, taps, start, count):
    """The first numbers of the row that begins with a start of at least as many numbers as taps."""
    row = list(start[:count])
    while len(row) < count:
        row.append(next_number(prime, taps, row))
    return tuple(row)


def low_of(prime, taps):
    """1 less the first tap times x, less the second tap times x ** 2, and so on."""
    return trimmed([1] + [-tap % prime for tap in taps])


def modulus_of(prime, taps):
    """x ** L less the first tap times x ** (L - 1), less the second tap times x ** (L - 2), and so on.

    Each row goes on by this polynomial: a multiple of it, read as weights of numbers
    that follow one another, always sums up to 0.
    """
    return tuple(reversed([1] + [-tap % prime for tap in taps]))


def weighted(prime, weights, row, at):
    """The sum of the products of the weights and the numbers of a row from an index on."""
    return sum([weight * row[at + place] for place, weight in enumerate(weights)]) % prime


def taps_of_low(prime, low):
    """The taps whose terms, taken from 1, make a low; zeros at its end make taps, too."""
    return tuple([-number % prime for number in low[1:]])
