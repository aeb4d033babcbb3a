"""Blocks that are repeated: periods, fractions, lengths, spectra (points 12, 13 and 15)."""

from taprows.checks import check_block, check_number, check_prime
from taprows.coefficients import common_divisor, quotient_and_rest, scaled, trimmed
from taprows.errors import BadBlock
from taprows.integers import inverse, power_of
from taprows.recurrence import taps_of_low

MOST_EXPONENT = 8


def least_period(prime, block):
    """The least number of numbers after which the endless row of a block repeats."""
    _check(prime, block)
    size = len(block)
    period = 1
    # A period that does not divide the size makes a row of another size.
    while block[:period] * (size // period) != block:
        period += 1
    return period


def block_fraction(prime, block):
    """The pair (above, low) of the endless row of a block, in lowest terms, low beginning with 1."""
    _check(prime, block)
    return _fraction_of(prime, block)


def block_taps(prime, block):
    """The taps of the shortest register that makes all beginnings of the endless row of a block."""
    _check(prime, block)
    return _taps_of(prime, block)


def power_length(prime, block):
    """The length of a block whose size is a power of the prime."""
    _check(prime, block)
    size = len(block)
    while size % prime == 0:
        size = size // prime
    if size != 1:
        raise BadBlock("the size is a power of the prime here")
    return len(_taps_of(prime, block))


def count_blocks(prime, exponent, length):
    """How many blocks of the size of a power of the prime have a length."""
    check_prime(prime)
    check_number(exponent, 0, MOST_EXPONENT)
    check_number(length, 0, power_of(prime, exponent))
    if length == 0:
        return 1
    return (prime - 1) * power_of(prime, length - 1)


def spectrum(prime, block):
    """The sums of the numbers of a block times powers of a root, of which there are as many as numbers."""
    _check_divides(prime, block)
    return _sums_of(prime, block, _root(prime, len(block)))


def from_spectrum(prime, told):
    """The block with a told spectrum."""
    _check_divides(prime, told)
    size = len(told)
    sums = _sums_of(prime, told, inverse(prime, _root(prime, size)))
    # The sums with the inverse root are the numbers of the block, each times the size.
    scale = inverse(prime, size)
    return tuple([scale * number % prime for number in sums])


def _check(prime, block):
    check_prime(prime)
    check_block(prime, block)


def _check_divides(prime, block):
    _check(prime, block)
    if (prime - 1) % len(block) != 0:
        raise BadBlock("the size divides the prime less 1 here")


def _fraction_of(prime, block):
    above = trimmed(block)
    low = (1,) + (0,) * (len(block) - 1) + (prime - 1,)
    common = common_divisor(prime, low, above)
    above, _ = quotient_and_rest(prime, above, common)
    low, _ = quotient_and_rest(prime, low, common)
    scale = inverse(prime, low[0])
    return scaled(prime, above, scale), scaled(prime, low, scale)


def _taps_of(prime, block):
    # The row repeats from its first number on, so above has a lower degree than low.
    _, low = _fraction_of(prime, block)
    return taps_of_low(prime, low)


def _root(prime, size):
    """The least number whose powers repeat with a least period that divides the prime less 1."""
    number = 1
    while _repeats_after(prime, number) != size:
        number += 1
    return number


def _repeats_after(prime, number):
    power = number
    count = 1
    while power != 1:
        power = power * number % prime
        count += 1
    return count


def _sums_of(prime, numbers, root):
    """The sums of the numbers times the powers of a root, one for each of its powers."""
    powers = [power_of(root, exponent) for exponent in range(len(numbers))]
    return tuple([_sum_at(prime, numbers, powers, index) for index in range(len(numbers))])


def _sum_at(prime, numbers, powers, index):
    products = [number * powers[index * place % len(powers)] for place, number in enumerate(numbers)]
    return sum(products) % prime
