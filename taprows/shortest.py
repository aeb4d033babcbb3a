"""The shortest registers that make a row, and weights that show that none is shorter (points 6 and 7)."""

from taprows.checks import MOST_FOUND, are_so_many, check_number, check_prime, check_row
from taprows.errors import TooMany
from taprows.growth import Growth, grown
from taprows.integers import power_of


def least_length(prime, row):
    """The least length of a register that makes a row."""
    _check(prime, row)
    return grown(prime, row).length


def shortest(prime, row):
    """The taps of a register of the least length that makes a row."""
    _check(prime, row)
    return grown(prime, row).taps()


def all_shortest(prime, row):
    """The ascending list of the taps of all registers of the least length that make a row."""
    _check(prime, row)
    growth = grown(prime, row)
    # The low may be changed by multiples of the older one that reach behind the row only.
    free = max(0, 2 * growth.length - len(row))
    if power_of(prime, free) > MOST_FOUND:
        raise TooMany(MOST_FOUND)
    found = [growth.taps()]
    for place in range(free):
        change = [0] * (growth.shift + place - 1) + growth.older
        change = change + [0] * (growth.length - len(change))
        found = [_changed(prime, taps, times, change) for taps in found for times in range(prime)]
    return sorted(found)


def lower_bound(prime, row, length):
    """Weights that show that no register of a length makes a row, None if one does."""
    _check(prime, row)
    check_number(length, 0, len(row))
    growth = Growth(prime)
    for number in row:
        growth.take(number)
        if growth.length > length:
            return _weights(growth, length, len(row))
    return None


def shows_bound(prime, row, length, value):
    """Whether any value is weights that show that no register of a length makes a row."""
    _check(prime, row)
    check_number(length, 0, len(row))
    if not are_so_many(prime, value, len(row) - length):
        return False
    sums = [_weighted(prime, value, row[length - back:]) for back in range(length + 1)]
    return sums[0] != 0 and not any(sums[1:])


def _check(prime, row):
    check_prime(prime)
    check_row(prime, row)


def _changed(prime, taps, times, change):
    return tuple([(tap + times * number) % prime for tap, number in zip(taps, change)])


def _weights(growth, length, size):
    """The weights behind the first jump above a length.

    The low ahead of the jump, written backwards from the index of the jump, tells the sum
    that is not 0 there and is 0 at all earlier indexes that the register has to make.
    """
    weights = [0] * (size - length)
    jump = len(growth.row) - 1
    for back, number in enumerate(growth.older):
        weights[jump - back - length] = number
    return tuple(weights)


def _weighted(prime, weights, numbers):
    return sum([weight * number for weight, number in zip(weights, numbers)]) % prime
