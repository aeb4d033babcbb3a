"""Polynomials: sums, products, division, common divisors, powers (point 2)."""

from taprows.checks import check_number, check_polynomial, check_prime
from taprows.coefficients import power_rest_of, product_of, quotient_and_rest, scaled, sum_of
from taprows.errors import ZeroDivisor
from taprows.integers import inverse

MOST_EXPONENT = 10 ** 18


def poly_sum(prime, a, b):
    _check_two(prime, a, b)
    return sum_of(prime, a, b)


def poly_product(prime, a, b):
    _check_two(prime, a, b)
    return product_of(prime, a, b)


def divide(prime, a, b):
    """The pair (quotient, rest) with a = quotient * b + rest."""
    _check_two(prime, a, b)
    _check_divisor(b)
    return quotient_and_rest(prime, a, b)


def combination(prime, a, b):
    """A tuple (d, s, t): the greatest common divisor d, and s and t with d = s * a + t * b."""
    _check_two(prime, a, b)
    older = (a, (1,), ())
    newer = (b, (), (1,))
    while newer[0]:
        quotient, _ = quotient_and_rest(prime, older[0], newer[0])
        older, newer = newer, _less_multiple(prime, older, newer, quotient)
    divisor, s, t = older
    if not divisor:
        return older
    scale = inverse(prime, divisor[-1])
    return scaled(prime, divisor, scale), scaled(prime, s, scale), scaled(prime, t, scale)


def power_rest(prime, a, exponent, modulus):
    """The rest of the power of a by a modulus."""
    check_prime(prime)
    check_polynomial(prime, a)
    check_number(exponent, 0, MOST_EXPONENT)
    check_polynomial(prime, modulus)
    _check_divisor(modulus)
    return power_rest_of(prime, a, exponent, modulus)


def _check_two(prime, a, b):
    check_prime(prime)
    check_polynomial(prime, a)
    check_polynomial(prime, b)


def _check_divisor(b):
    if not b:
        raise ZeroDivisor("zero does not divide")


def _less_multiple(prime, older, newer, quotient):
    """The three polynomials of older, each less the quotient times that of newer."""
    minus = scaled(prime, quotient, prime - 1)
    return tuple([sum_of(prime, one, product_of(prime, minus, other)) for one, other in zip(older, newer)])
