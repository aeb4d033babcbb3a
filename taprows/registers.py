"""Registers: their rows, states and fractions (points 3 and 4)."""

from taprows.checks import MOST_NUMBERS, MOST_STEPS, check_number, check_polynomial, check_prime, check_row, check_taps
from taprows.checks import check_wired
from taprows.coefficients import power_rest_of, product_of, trimmed
from taprows.errors import ZeroDivisor
from taprows.integers import inverse
from taprows.recurrence import first_numbers, low_of, modulus_of, next_number, weighted


def run(prime, taps, start, count):
    """The first numbers of a register's row."""
    check_wired(prime, taps, start)
    check_number(count, 0, MOST_NUMBERS)
    return first_numbers(prime, taps, start, count)


def first_break(prime, taps, row):
    """The index of the first number with which a row does not go on by taps, None if there is none."""
    check_prime(prime)
    check_taps(prime, taps)
    check_row(prime, row)
    for at in range(len(taps), len(row)):
        if row[at] != next_number(prime, taps, row[:at]):
            return at
    return None


def state_after(prime, taps, start, steps):
    """The numbers of a register's row from the index steps on, as many as there are taps."""
    check_wired(prime, taps, start)
    check_number(steps, 0, MOST_STEPS)
    weights = power_rest_of(prime, (0, 1), steps, modulus_of(prime, taps))
    row = first_numbers(prime, taps, start, 2 * len(taps))
    return tuple([weighted(prime, weights, row, at) for at in range(len(taps))])


def fraction(prime, taps, start):
    """The pair (above, low) of polynomials whose quotient is the series of a register's row."""
    check_wired(prime, taps, start)
    low = low_of(prime, taps)
    above = product_of(prime, start, low)[:len(taps)]
    return trimmed(above), low


def expansion(prime, above, low, count):
    """The first numbers of the series that times low is above."""
    check_prime(prime)
    check_polynomial(prime, above)
    check_polynomial(prime, low)
    check_number(count, 0, MOST_NUMBERS)
    if not low or low[0] == 0:
        raise ZeroDivisor("a divisor of series begins with a number other than 0")
    scale = inverse(prime, low[0])
    row = []
    for at in range(count):
        number = above[at] if at < len(above) else 0
        taken = sum([low[back] * row[at - back] for back in range(1, min(at + 1, len(low)))])
        row.append((number - taken) * scale % prime)
    return tuple(row)
