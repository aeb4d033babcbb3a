"""Factors, orders and primitive polynomials (points 16 and 17)."""

from taprows.checks import MOST_DEGREE, MOST_FOUND, check_number, check_polynomial, check_prime, check_states
from taprows.coefficients import power_rest_of
from taprows.errors import NotUnit, TooMany, ZeroDivisor
from taprows.integers import power_of, prime_divisors
from taprows.splitting import factors_of, gives_one, is_whole, order_of
from taprows.states import states_of


def factors(prime, a):
    """The ascending list of the pairs (factor, exponent) of a polynomial."""
    _check_splitting(prime, a)
    return factors_of(prime, a)


def cannot_split(prime, a):
    """Whether a polynomial has a degree of at least 1 and is no product of two such."""
    _check_splitting(prime, a)
    return is_whole(prime, a)


def order(prime, a):
    """The least integer e from 1 on such that a polynomial divides x ** e - 1."""
    _check_order(prime, a)
    return order_of(prime, a)


def order_certificate(prime, a):
    """A pair (e, rows) of the order, and of the pairs (q, rest of x ** (e / q)) of its prime divisors q."""
    _check_order(prime, a)
    return _certificate(prime, a)


def shows_order(prime, a, value):
    """Whether any value is a pair (e, rows) that shows that e is the order."""
    _check_order(prime, a)
    # Only the order has such rows, and it is below the bound of e.
    return _is_same(value, _certificate(prime, a))


def is_primitive(prime, a):
    """Whether a polynomial cannot be split and has the greatest order that its degree lets it have."""
    check_prime(prime)
    check_polynomial(prime, a)
    if len(a) < 2 or a[0] == 0:
        return False
    check_states(prime, len(a) - 1)
    most = power_of(prime, len(a) - 1) - 1
    return _has_order(prime, a, most, prime_divisors(most))


def primitives(prime, size):
    """The ascending list of the primitive polynomials of a degree that have the leading number 1."""
    check_prime(prime)
    check_number(size, 1, MOST_DEGREE)
    many = power_of(prime, size)
    if many > MOST_FOUND:
        raise TooMany(MOST_FOUND)
    divisors = prime_divisors(many - 1)
    polynomials = [numbers + (1,) for numbers in states_of(prime, size) if numbers[0] != 0]
    return [a for a in polynomials if _has_order(prime, a, many - 1, divisors)]


def _check_splitting(prime, a):
    check_prime(prime)
    check_polynomial(prime, a)
    if not a:
        raise ZeroDivisor("zero has no factors")
    if len(a) - 1 > MOST_DEGREE:
        raise TooMany(MOST_DEGREE)


def _check_order(prime, a):
    check_prime(prime)
    check_polynomial(prime, a)
    if not a or a[0] == 0:
        raise NotUnit("the constant is not 0 where there is an order")
    check_states(prime, len(a) - 1)


def _certificate(prime, a):
    e = order_of(prime, a)
    rows = [(q, power_rest_of(prime, (0, 1), e // q, a)) for q in prime_divisors(e)]
    return e, tuple(rows)


def _has_order(prime, a, e, divisors):
    """Whether a polynomial with a constant other than 0 has the order e, which has these prime divisors.

    If it is the greatest one for the degree, the powers of x are all the rests but zero,
    so each of them divides 1, and the polynomial cannot be split.
    """
    return gives_one(prime, a, e) and not any([gives_one(prime, a, e // divisor) for divisor in divisors])


def _is_same(value, told):
    """Whether any value is what is told, an integer or a tuple of such; True is not 1 here."""
    if not isinstance(told, tuple):
        return isinstance(value, int) and not isinstance(value, bool) and value == told
    if not isinstance(value, tuple) or len(value) != len(told):
        return False
    return all([_is_same(part, known) for part, known in zip(value, told)])
