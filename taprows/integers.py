"""Powers and inverses of integers."""


def power_of(base, exponent):
    """The power of an integer with an exponent from 0 on, by squaring."""
    result = 1
    for place in reversed(range(exponent.bit_length())):
        result = result * result
        if exponent >> place & 1:
            result = result * base
    return result


def inverse(prime, number):
    """The number that times a number other than 0 is 1."""
    other = 1
    while number * other % prime != 1:
        other += 1
    return other
