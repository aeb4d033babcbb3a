"""The other wiring of registers (point 33)."""

from taprows.checks import MOST_NUMBERS, MOST_STEPS, check_number, check_prime, check_taps, check_wired
from taprows.coefficients import padded, power_rest_of, product_of, rest_of, trimmed
from taprows.recurrence import first_numbers, low_of, modulus_of


def other_run(prime, taps, start, count):
    """The first numbers of the row of a state of the other wiring."""
    check_wired(prime, taps, start)
    check_number(count, 0, MOST_NUMBERS)
    return first_numbers(prime, taps, _row_start(prime, taps, start), count)


def to_other(prime, taps, start):
    """The state of the other wiring whose row is that of a register."""
    check_wired(prime, taps, start)
    # The numbers of the state are what is above in the fraction of the row.
    return padded(product_of(prime, start, low_of(prime, taps)), len(taps))


def from_other(prime, taps, state):
    """The first numbers of the row of a state of the other wiring, as many as there are taps."""
    check_wired(prime, taps, state)
    return _row_start(prime, taps, state)


def other_after(prime, taps, state, steps):
    """The state of the other wiring behind so many steps."""
    check_wired(prime, taps, state)
    check_number(steps, 0, MOST_STEPS)
    modulus = modulus_of(prime, taps)
    # A step multiplies the state, read as a polynomial whose leading number comes first, by x.
    leap = power_rest_of(prime, (0, 1), steps, modulus)
    behind = rest_of(prime, product_of(prime, trimmed(state[::-1]), leap), modulus)
    return padded(behind, len(taps))[::-1]


def leap_rows(prime, taps, steps):
    """The weights of a start's numbers in each number of the state behind so many steps."""
    check_prime(prime)
    check_taps(prime, taps)
    check_number(steps, 0, MOST_STEPS)
    modulus = modulus_of(prime, taps)
    weights = power_rest_of(prime, (0, 1), steps, modulus)
    rows = []
    for _ in taps:
        rows.append(padded(weights, len(taps)))
        weights = rest_of(prime, (0,) + weights, modulus)
    return tuple(rows)


def _row_start(prime, taps, state):
    """The numbers of a row with which each number of the state is a number less what the taps tell ahead of it."""
    row = []
    for at, number in enumerate(state):
        told = sum([taps[back] * row[at - 1 - back] for back in range(at)])
        row.append((number + told) % prime)
    return tuple(row)
