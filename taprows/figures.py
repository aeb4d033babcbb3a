"""Figures of integers and of fractions to the base of a prime, without checks of the arguments."""

from math import gcd

from taprows.integers import inverse


def value_of(prime, row):
    """The integer with the numbers of a row as its figures, the first one being the least."""
    value = 0
    for number in reversed(row):
        value = value * prime + number
    return value


def figures_of(prime, above, low, count):
    """The first numbers of the endless row of a fraction, whose low the prime does not divide."""
    row = []
    for _ in range(count):
        row.append(_first_figure(prime, above, low))
        above = rest_above(prime, above, low)
    return tuple(row)


def rest_above(prime, above, low):
    """What is above in the fraction of the row without its first number."""
    return (above - _first_figure(prime, above, low) * low) // prime


def lowest(above, low):
    """A fraction without common divisors, for a low from 1 on."""
    common = gcd(above, low)
    return above // common, low // common


def _first_figure(prime, above, low):
    return above * inverse(prime, low) % prime
