"""Fields of a prime's power (point 42)."""

from taprows.checks import check_number, check_prime
from taprows.coefficients import padded, power_rest_of, product_of, rest_of, trimmed
from taprows.errors import ZeroDivisor
from taprows.fields import check_element, check_field, field_size, number_of, trace_in
from taprows.figures import figures_of
from taprows.linear import zero_sums
from taprows.splitting import order_in

MOST_EXPONENT = 10 ** 18


def element_product(prime, low, a, b):
    """The product of two elements."""
    _check(prime, low, a)
    check_element(prime, low, b)
    return rest_of(prime, product_of(prime, a, b), low)


def element_inverse(prime, low, a):
    """The element that times an element is 1."""
    _check(prime, low, a)
    _check_divisor(a)
    return _power(prime, low, a, -1)


def element_power(prime, low, a, exponent):
    """The power of an element, also with an exponent below 0."""
    _check(prime, low, a)
    check_number(exponent, -MOST_EXPONENT, MOST_EXPONENT)
    if exponent < 0:
        _check_divisor(a)
    return _power(prime, low, a, exponent)


def element_order(prime, low, a):
    """The least exponent from 1 on with which the power of an element is 1."""
    _check(prime, low, a)
    _check_divisor(a)
    return order_in(prime, low, a)


def trace(prime, low, a):
    """The sum of the images of an element."""
    _check(prime, low, a)
    return trace_in(prime, low, a)


def norm(prime, low, a):
    """The product of the images of an element."""
    _check(prime, low, a)
    # The exponents of the images add up to this one.
    exponent = (field_size(prime, low) - 1) // (prime - 1)
    return number_of(power_rest_of(prime, a, exponent, low))


def minimal_polynomial(prime, low, a):
    """The polynomial of least degree with the leading number 1 that is zero with an element in the place of x."""
    _check(prime, low, a)
    size = len(low) - 1
    powers = [power_rest_of(prime, a, exponent, low) for exponent in range(size + 1)]
    # The first weights that are found end at the first power that is a sum of those ahead of it.
    return trimmed(zero_sums(prime, [padded(power, size) for power in powers])[0])


def generator(prime, low):
    """The first element of whose powers all elements but zero are."""
    check_prime(prime)
    check_field(prime, low)
    number = 1
    while order_in(prime, low, _element_of(prime, low, number)) != field_size(prime, low) - 1:
        number += 1
    return _element_of(prime, low, number)


def logarithm(prime, low, base, a):
    """The least exponent from 0 on with which the power of a base is an element, None if there is none."""
    _check(prime, low, base)
    check_element(prime, low, a)
    power = (1,)
    for exponent in range(field_size(prime, low)):
        if power == a:
            return exponent
        power = rest_of(prime, product_of(prime, power, base), low)
    return None


def _check(prime, low, a):
    check_prime(prime)
    check_field(prime, low)
    check_element(prime, low, a)


def _check_divisor(a):
    if not a:
        raise ZeroDivisor("zero does not divide")


def _power(prime, low, a, exponent):
    """The power of an element, which is not zero if the exponent is below 0."""
    if exponent < 0:
        # All powers of an element other than zero repeat with this period.
        exponent = exponent % (field_size(prime, low) - 1)
    return power_rest_of(prime, a, exponent, low)


def _element_of(prime, low, number):
    """The element with the sum of its numbers times prime ** index."""
    return trimmed(figures_of(prime, number, 1, len(low) - 1))
