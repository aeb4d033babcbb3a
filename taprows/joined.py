"""The shortest registers of rows that are joined, woven and decimated (points 19 and 20)."""

from taprows.checks import MOST_TAPS, check_number, check_pair, check_prime, is_wired
from taprows.coefficients import power_rest_of, product_of, rest_of
from taprows.errors import BadRegisters, TooMany
from taprows.growth import least_wired
from taprows.recurrence import first_numbers, modulus_of, weighted

MOST_WOVEN = 4
MOST_STEP = 1000


def least_one(prime, wired):
    """The shortest register of the row of a register."""
    check_prime(prime)
    check_pair(prime, wired)
    return least_wired(prime, _row_of(prime, wired, 2 * len(wired[0])))


def added(prime, one, other):
    """The shortest register of the sums of the numbers of two registers' rows."""
    _check_two(prime, one, other)
    most = len(one[0]) + len(other[0])
    left, right = _two_rows(prime, one, other, most)
    return least_wired(prime, [(a + b) % prime for a, b in zip(left, right)])


def multiplied(prime, one, other):
    """The shortest register of the products of the numbers of two registers' rows."""
    _check_two(prime, one, other)
    most = len(one[0]) * len(other[0])
    left, right = _two_rows(prime, one, other, most)
    return least_wired(prime, [a * b % prime for a, b in zip(left, right)])


def woven(prime, registers):
    """The shortest register of the row that takes its numbers from some registers' rows in turn."""
    check_prime(prime)
    _check_registers(prime, registers)
    many = sum([len(taps) for taps, _ in registers])
    _check_most(len(registers) * many)
    rows = [_row_of(prime, wired, 2 * many) for wired in registers]
    return least_wired(prime, [row[at] for at in range(2 * many) for row in rows])


def decimated(prime, wired, first, step):
    """The shortest register of the row that has the numbers of a register's row at each so manyth index."""
    check_prime(prime)
    check_pair(prime, wired)
    check_number(first, 0, MOST_STEP)
    check_number(step, 1, MOST_STEP)
    taps, start = wired
    modulus = modulus_of(prime, taps)
    # The rest of x to an index is the weights of the start's numbers in the number there.
    weights = power_rest_of(prime, (0, 1), first, modulus)
    leap = power_rest_of(prime, (0, 1), step, modulus)
    row = []
    for _ in range(2 * len(taps)):
        row.append(weighted(prime, weights, start, 0))
        weights = rest_of(prime, product_of(prime, weights, leap), modulus)
    return least_wired(prime, row)


def _check_two(prime, one, other):
    check_prime(prime)
    check_pair(prime, one)
    check_pair(prime, other)


def _check_registers(prime, registers):
    if not isinstance(registers, tuple) or not 1 <= len(registers) <= MOST_WOVEN:
        raise BadRegisters(None)
    for at, wired in enumerate(registers):
        if not is_wired(prime, wired):
            raise BadRegisters(at)


def _check_most(most):
    if most > MOST_TAPS:
        raise TooMany(MOST_TAPS)


def _row_of(prime, wired, count):
    taps, start = wired
    return first_numbers(prime, taps, start, count)


def _two_rows(prime, one, other, most):
    """Twice as many first numbers of both rows as the joined row has taps at most."""
    _check_most(most)
    return _row_of(prime, one, 2 * most), _row_of(prime, other, 2 * most)
