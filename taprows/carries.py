"""Rows as figures of integers and of fractions (points 29 and 30)."""

from taprows.checks import MOST_NUMBERS, check_block, check_fraction, check_number, check_prime, check_row
from taprows.errors import OtherSize, TooMany, ZeroDivisor
from taprows.figures import figures_of, lowest, rest_above, value_of
from taprows.integers import power_modulo, power_of, prime_divisors

# The exponents of powers in the package are 64 at most.
MOST_VALUE = 10 ** 60 * 10 ** 60
MOST_LOW = 10 ** 12
MOST_TRIED = 3000


def row_number(prime, row):
    """The integer with the numbers of a row as its figures, the first one being the least."""
    check_prime(prime)
    check_row(prime, row)
    return value_of(prime, row)


def number_row(prime, number, count):
    """The first figures of an integer, the least ones."""
    check_prime(prime)
    check_number(number, -MOST_VALUE, MOST_VALUE)
    check_number(count, 0, MOST_NUMBERS)
    return figures_of(prime, number, 1, count)


def carry_sum(prime, one, other):
    """The row of the sum of the integers of two rows of one size."""
    _check_two(prime, one, other)
    _check_sizes(one, other)
    return figures_of(prime, value_of(prime, one) + value_of(prime, other), 1, len(one))


def carry_product(prime, one, other):
    """The row of the product of the integers of two rows of one size."""
    _check_two(prime, one, other)
    _check_sizes(one, other)
    return figures_of(prime, value_of(prime, one) * value_of(prime, other), 1, len(one))


def carry_quotient(prime, one, other):
    """The row of an integer that times that of other is that of one, up to a multiple of the power of the size."""
    _check_two(prime, one, other)
    # This is an error of other alone, so it goes ahead of that of both.
    if other[:1] == (0,):
        raise ZeroDivisor("a row that begins with 0 does not divide")
    _check_sizes(one, other)
    return figures_of(prime, value_of(prime, one), value_of(prime, other), len(one))


def fraction_row(prime, fraction, count):
    """The first numbers of the endless row of a fraction."""
    check_prime(prime)
    check_fraction(prime, fraction)
    check_number(count, 0, MOST_NUMBERS)
    above, low = fraction
    return figures_of(prime, above, low, count)


def repeated_fraction(prime, ahead, block):
    """The fraction whose endless row begins with a row and then repeats a block without end."""
    check_prime(prime)
    check_row(prime, ahead)
    check_block(prime, block)
    # The block repeated is its value times the sum of the powers of this power of the prime,
    # which times it less 1 is -1.
    low = power_of(prime, len(block)) - 1
    above = value_of(prime, ahead) * low - power_of(prime, len(ahead)) * value_of(prime, block)
    return lowest(above, low)


def fraction_period(prime, fraction):
    """The pair (ahead, period): behind so many numbers the endless row repeats, with this least period."""
    check_prime(prime)
    check_fraction(prime, fraction)
    above, low = lowest(fraction[0], fraction[1])
    if low > MOST_LOW:
        raise TooMany(MOST_LOW)
    ahead = 0
    # Just the fractions from -1 to 0 are those of blocks that are repeated from the first number on.
    while not -low <= above <= 0:
        above = rest_above(prime, above, low)
        ahead += 1
    return ahead, _period(prime, low)


def long_lows(prime, most):
    """The ascending list of the prime numbers low for which the row of (1, low) has the least period low - 1."""
    check_prime(prime)
    check_number(most, 0, MOST_TRIED)
    lows = [low for low in range(2, most + 1) if low != prime and prime_divisors(low) == [low]]
    return [low for low in lows if _period(prime, low) == low - 1]


def _check_two(prime, one, other):
    check_prime(prime)
    check_row(prime, one)
    check_row(prime, other)


def _check_sizes(one, other):
    if len(one) != len(other):
        raise OtherSize("the two rows are of one size here")


def _period(prime, low):
    """The least exponent from 1 on with which the power of the prime has the rest of 1 by low."""
    exponent = low
    for divisor in prime_divisors(low):
        exponent = exponent // divisor * (divisor - 1)
    for divisor in prime_divisors(exponent):
        while exponent % divisor == 0 and power_modulo(prime, exponent // divisor, low) == 1 % low:
            exponent = exponent // divisor
    return exponent
