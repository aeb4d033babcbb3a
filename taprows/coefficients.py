"""Polynomials of any size as tuples of coefficients, without checks of the arguments."""

from taprows.integers import inverse


def trimmed(numbers):
    """The polynomial of a list or tuple of coefficients, without the zeros at its end."""
    end = len(numbers)
    while end > 0 and numbers[end - 1] == 0:
        end -= 1
    return tuple(numbers[:end])


def padded(numbers, size):
    """The first so many numbers of a polynomial, zeros at the end included."""
    return (tuple(numbers) + (0,) * size)[:size]


def sum_of(prime, a, b):
    size = max(len(a), len(b))
    left = list(a) + [0] * (size - len(a))
    right = list(b) + [0] * (size - len(b))
    return trimmed([(one + other) % prime for one, other in zip(left, right)])


def scaled(prime, a, number):
    """A polynomial times a number."""
    return trimmed([number * coefficient % prime for coefficient in a])


def product_of(prime, a, b):
    if not a or not b:
        return ()
    numbers = [0] * (len(a) + len(b) - 1)
    for low, left in enumerate(a):
        if left == 0:
            continue
        for high, right in enumerate(b):
            numbers[low + high] += left * right
    return trimmed([number % prime for number in numbers])


def quotient_and_rest(prime, a, b):
    """The pair (quotient, rest) of a division by a polynomial other than zero."""
    rest = list(a)
    quotient = [0] * max(0, len(a) - len(b) + 1)
    scale = inverse(prime, b[-1])
    for shift in reversed(range(len(quotient))):
        factor = rest[shift + len(b) - 1] * scale % prime
        quotient[shift] = factor
        if factor == 0:
            continue
        for at, number in enumerate(b):
            rest[shift + at] = (rest[shift + at] - factor * number) % prime
    return trimmed(quotient), trimmed(rest)


def rest_of(prime, a, b):
    _, rest = quotient_and_rest(prime, a, b)
    return rest


def monic(prime, a):
    """A polynomial other than zero, times the number that makes its leading number 1."""
    return scaled(prime, a, inverse(prime, a[-1]))


def derivative(prime, a):
    """The sum of the terms of a polynomial, each times its power and divided by x."""
    return trimmed([power * number % prime for power, number in enumerate(a)][1:])


def common_divisor(prime, a, b):
    """A greatest common divisor, with any leading number; zero if both are zero."""
    while b:
        a, b = b, rest_of(prime, a, b)
    return a


def power_rest_of(prime, a, exponent, modulus):
    """The rest of a power by a modulus other than zero."""
    base = rest_of(prime, a, modulus)
    result = rest_of(prime, (1,), modulus)
    for place in reversed(range(exponent.bit_length())):
        result = rest_of(prime, product_of(prime, result, result), modulus)
        if exponent >> place & 1:
            result = rest_of(prime, product_of(prime, base, result), modulus)
    return result
