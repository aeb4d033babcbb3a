"""Registers with carry, and the least fractions of rows (points 31 and 32; A. Klapper, M. Goresky, 1997)."""

from taprows.checks import MOST_NUMBERS, MOST_TAPS, check_fraction, check_number, check_prime, check_row, check_wired
from taprows.errors import TooMany
from taprows.figures import figures_of, lowest, value_of
from taprows.integers import inverse, power_of

# The exponents of powers in the package are 64 at most.
MOST_CARRY = 10 ** 60 * 10 ** 10


def carry_run(prime, taps, start, carry, count):
    """The first numbers of the row of a register with carry."""
    check_wired(prime, taps, start)
    check_number(carry, -MOST_CARRY, MOST_CARRY)
    check_number(count, 0, MOST_NUMBERS)
    row = list(start[:count])
    while len(row) < count:
        total = carry + sum([tap * row[-1 - at] for at, tap in enumerate(taps)])
        row.append(total % prime)
        carry = total // prime
    return tuple(row)


def carry_fraction(prime, taps, start, carry):
    """The fraction without common divisors whose endless row is that of a register with carry."""
    check_wired(prime, taps, start)
    check_number(carry, -MOST_CARRY, MOST_CARRY)
    low = value_of(prime, (0,) + taps) - 1
    above = _told_by(prime, taps, start) - power_of(prime, len(taps)) * carry
    # Without a tap other than 0 the row is the figures of an integer.
    return lowest(above, low) if low > 0 else lowest(-above, -low)


def carry_register(prime, fraction):
    """The taps, the start and the carry of a register with carry whose row is that of a fraction."""
    check_prime(prime)
    check_fraction(prime, fraction)
    above, low = lowest(fraction[0], fraction[1])
    # The taps are the figures of a multiple of low and 1, the first one of which has to be 0.
    times = inverse(prime, -low % prime)
    most = power_of(prime, MOST_TAPS + 1)
    if times * low + 1 >= most:
        raise TooMany(MOST_TAPS)
    taps = _taps_of(prime, times * low + 1)
    start = figures_of(prime, above, low, len(taps))
    carry = (_told_by(prime, taps, start) - times * above) // power_of(prime, len(taps))
    return taps, start, carry


def carry_span(prime, row):
    """The least size of a fraction whose endless row begins with a row."""
    above, low = _least_of(prime, row)
    return max(abs(above), low)


def least_fraction(prime, row):
    """A fraction of the least size whose endless row begins with a row."""
    # It has no common divisors: without them its size would be less.
    return _least_of(prime, row)


def _told_by(prime, taps, start):
    """What is above in the fraction, the carry being 0, if low is the value of 0 and the taps less 1."""
    value = -value_of(prime, start)
    for at, tap in enumerate(taps):
        # The tap reads all numbers of the start but the last at + 1 ones.
        value += tap * power_of(prime, at + 1) * value_of(prime, start[:len(start) - at - 1])
    return value


def _taps_of(prime, value):
    """The figures of an integer behind the first one."""
    taps = []
    value = value // prime
    while value > 0:
        taps.append(value % prime)
        value = value // prime
    return tuple(taps)


def _least_of(prime, row):
    check_prime(prime)
    check_row(prime, row)
    whole = power_of(prime, len(row))
    above, low = _fitting(prime, _reduced((value_of(prime, row), 1), (whole, 0)))
    return (above, low) if low > 0 else (-above, -low)


def _fitting(prime, pairs):
    """The first of two pairs whose low the prime does not divide.

    The first pair is the least one of its lattice, the second one the least one that is no multiple
    of it. If the prime divides the low of the first, so it does for all its multiples; it does not
    divide both, as all pairs are sums of multiples of the two.
    """
    return pairs[0] if pairs[0][1] % prime != 0 else pairs[1]


def _reduced(one, other):
    """The two least pairs, neither a multiple of the other, among all sums of multiples of two pairs (C. Gauss)."""
    if _size(other) < _size(one):
        one, other = other, one
    rest = _nearest(other, one)
    while _size(rest) < _size(one):
        one, other = rest, one
        rest = _nearest(other, one)
    return one, rest


def _nearest(pair, step):
    """The pair of the least size that comes from a pair by taking away a multiple of a step.

    The size is convex in the multiple, and among all fractions it is least at one for which both
    integers of the pair are equal but for the sign: so the least one is beside one of these.
    """
    places = [(pair[0] - pair[1], step[0] - step[1]), (pair[0] + pair[1], step[0] + step[1])]
    beside = [above // low for above, low in places if low != 0]
    found = [_less(pair, step, many) for many in beside] + [_less(pair, step, many + 1) for many in beside]
    return min(found, key=_size)


def _less(pair, step, many):
    return pair[0] - many * step[0], pair[1] - many * step[1]


def _size(pair):
    return max(abs(pair[0]), abs(pair[1]))
