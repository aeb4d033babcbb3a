"""Profiles: the least lengths of the beginnings of rows (points 8 to 11)."""

from math import gcd

from taprows.checks import MOST_FOUND, MOST_NUMBERS, check_lengths, check_number, check_prime, check_row
from taprows.checks import check_wired
from taprows.coefficients import product_of, quotient_and_rest, trimmed
from taprows.errors import BadProfile, TooMany
from taprows.growth import Growth
from taprows.integers import power_of
from taprows.recurrence import low_of
from taprows.rowsets import count_of, rows_with


def profile(prime, row):
    """The least lengths of the first number of a row, its first two numbers, and so on."""
    check_prime(prime)
    check_row(prime, row)
    growth = Growth(prime)
    lengths = []
    for number in row:
        growth.take(number)
        lengths.append(growth.length)
    return tuple(lengths)


def profile_break(lengths):
    """The index of the first length that cannot stand in a profile behind those ahead of it, or None."""
    check_lengths(lengths)
    return _break_of(lengths)


def row_of_profile(prime, lengths):
    """A row with a profile."""
    _check_profile(prime, lengths)
    growth = Growth(prime)
    for length in lengths:
        jump = 0 if length == growth.length else 1
        growth.take((growth.expected() + jump) % prime)
    return tuple(growth.row)


def count_profile(prime, lengths):
    """How many rows have a profile."""
    _check_profile(prime, lengths)
    count = 1
    ahead = 0
    for at, length in enumerate(lengths):
        if length != ahead:
            count = count * (prime - 1)
        elif 2 * ahead > at:
            count = count * prime
        ahead = length
    return count


def count_rows(prime, size, length):
    """How many rows of a size have a least length."""
    _check_size(prime, size, length)
    return count_of(prime, size, length)


def rows_of(prime, size, length):
    """The ascending list of the rows of a size that have a least length."""
    _check_size(prime, size, length)
    if count_of(prime, size, length) > MOST_FOUND:
        raise TooMany(MOST_FOUND)
    return sorted(rows_with(prime, size, length))


def mean_length(prime, size):
    """The mean of the least lengths of all rows of a size, as a pair (numerator, denominator)."""
    check_prime(prime)
    check_number(size, 0, MOST_NUMBERS)
    total = sum([length * count_of(prime, size, length) for length in range(size + 1)])
    many = power_of(prime, size)
    common = gcd(total, many)
    return total // common, many // common


def partial_quotients(prime, taps, start):
    """The list of the quotients of the fraction that a register's row tells."""
    check_wired(prime, taps, start)
    # The fraction of point 4 with 1 / x in the place of x, times a power of x.
    low = tuple([1] + [-tap % prime for tap in taps])[::-1]
    above = product_of(prime, trimmed(start), low_of(prime, taps))[:len(taps)]
    above = trimmed(tuple([0] * (len(taps) - len(above))) + above[::-1])
    quotients = []
    while above:
        quotient, rest = quotient_and_rest(prime, low, above)
        quotients.append(quotient)
        low, above = above, rest
    return quotients


def is_perfect(prime, row):
    """Whether each length of the profile is half of the number of numbers so far, rounded up."""
    lengths = profile(prime, row)
    return not any([length != (at + 2) // 2 for at, length in enumerate(lengths)])


def _break_of(lengths):
    ahead = 0
    for at, length in enumerate(lengths):
        jumps = 2 * ahead <= at and length == at + 1 - ahead
        if length != ahead and not jumps:
            return at
        ahead = length
    return None


def _check_profile(prime, lengths):
    check_prime(prime)
    check_lengths(lengths)
    at = _break_of(lengths)
    if at is not None:
        raise BadProfile(at)


def _check_size(prime, size, length):
    check_prime(prime)
    check_number(size, 0, MOST_NUMBERS)
    check_number(length, 0, size)
