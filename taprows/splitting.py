"""Factors and orders of polynomials, without checks of the arguments (E. Berlekamp, 1967)."""

from math import lcm

from taprows.coefficients import common_divisor, derivative, monic, padded, power_rest_of, quotient_and_rest, rest_of
from taprows.coefficients import sum_of, trimmed
from taprows.integers import power_of, prime_divisors
from taprows.linear import zero_sums


def factors_of(prime, a):
    """The ascending list of the pairs (factor, exponent) of a polynomial other than zero."""
    found = []
    rest = monic(prime, a)
    times = 1
    while len(rest) > 1:
        single, _ = quotient_and_rest(prime, rest, common_divisor(prime, rest, derivative(prime, rest)))
        for factor in _parts_of(prime, monic(prime, single)):
            exponent, rest = _divided_out(prime, rest, factor)
            found.append((factor, exponent * times))
        # All exponents that are left are multiples of the prime, and so are all powers of x.
        rest = rest[::prime]
        times = times * prime
    return sorted(_gathered(found))


def is_whole(prime, a):
    """Whether a polynomial other than zero has a degree of at least 1 and cannot be split."""
    parts = factors_of(prime, a)
    return len(parts) == 1 and parts[0][1] == 1


def order_of(prime, a):
    """The order of a polynomial whose constant is not 0."""
    order = 1
    most = 1
    for factor, exponent in factors_of(prime, a):
        order = lcm(order, whole_order(prime, factor))
        most = max(most, exponent)
    return order * prime_power(prime, most)


def whole_order(prime, factor):
    """The order of a polynomial that cannot be split, other than x."""
    return order_in(prime, factor, (0, 1))


def order_in(prime, factor, a):
    """The least exponent from 1 on with which the power of a polynomial has the rest of 1 by a factor.

    The factor cannot be split and does not divide the polynomial.
    """
    exponent = power_of(prime, len(factor) - 1) - 1
    for divisor in prime_divisors(exponent):
        while exponent % divisor == 0 and power_rest_of(prime, a, exponent // divisor, factor) == (1,):
            exponent = exponent // divisor
    return exponent


def gives_one(prime, a, exponent):
    """Whether x to a power has the rest of 1 by a polynomial other than zero."""
    return power_rest_of(prime, (0, 1), exponent, a) == rest_of(prime, (1,), a)


def prime_power(prime, least):
    """The least power of the prime that is not below an integer."""
    power = 1
    while power < least:
        power = power * prime
    return power


def _gathered(pairs):
    """The pairs (factor, exponent) with the exponents of one factor added."""
    exponents = {}
    for factor, exponent in pairs:
        exponents[factor] = exponents.get(factor, 0) + exponent
    return list(exponents.items())


def _divided_out(prime, a, factor):
    """How often a factor divides a polynomial, and what is left without it."""
    exponent = 0
    quotient, rest = quotient_and_rest(prime, a, factor)
    while not rest:
        a = quotient
        exponent += 1
        quotient, rest = quotient_and_rest(prime, a, factor)
    return exponent, a


def _parts_of(prime, a):
    """The factors of a polynomial that has none of them twice and the leading number 1."""
    if len(a) <= 2:
        return [a] if len(a) == 2 else []
    # The polynomials whose power by the prime they are themselves, up to multiples of a,
    # leave the rest of a number by each factor; there are as many free ones as factors.
    told = [_frobenius_less(prime, a, place) for place in range(len(a) - 1)]
    basis = zero_sums(prime, told)
    parts = [a]
    for weights in basis:
        if len(parts) < len(basis):
            parts = [piece for part in parts for piece in _pieces(prime, part, trimmed(weights))]
    return parts


def _frobenius_less(prime, a, place):
    """The rest of x ** (prime * place) less x ** place, as a list of as many numbers as the degree."""
    numbers = list(padded(power_rest_of(prime, (0, 1), prime * place, a), len(a) - 1))
    numbers[place] = (numbers[place] - 1) % prime
    return numbers


def _pieces(prime, part, teller):
    """The common divisors of a part with a polynomial less each number."""
    pieces = []
    for number in range(prime):
        less = sum_of(prime, teller, trimmed((number,)))
        piece = common_divisor(prime, part, less)
        if len(piece) > 1:
            pieces.append(monic(prime, piece))
    return pieces
