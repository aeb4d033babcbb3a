"""The shortest registers that make several rows (point 34)."""

from taprows.checks import are_numbers, are_so_many, check_number, check_prime
from taprows.errors import BadRows
from taprows.linear import zero_sums

MOST_ROWS = 6
MOST_OF_ROW = 100


def common_length(prime, rows):
    """The least length of a register that makes all rows."""
    _check(prime, rows)
    return len(_least_taps(prime, rows))


def common_taps(prime, rows):
    """The taps of a register of the least length that makes all rows."""
    _check(prime, rows)
    return _least_taps(prime, rows)


def common_bound(prime, rows, length):
    """Weights that show that no register of a length makes all rows, None if one does."""
    _check_length(prime, rows, length)
    places = _places(rows, length)
    numbers = [row[at] for row, at in places]
    for weights in zero_sums(prime, [row[at - length:at] for row, at in places]):
        if _weighted(prime, weights, numbers) != 0:
            return _parted(rows, length, weights)
    return None


def shows_common_bound(prime, rows, length, value):
    """Whether any value is weights that show that no register of a length makes all rows."""
    _check_length(prime, rows, length)
    if not isinstance(value, tuple) or len(value) != len(rows):
        return False
    if not all([are_so_many(prime, part, _many(row, length)) for part, row in zip(value, rows)]):
        return False
    weights = [number for part in value for number in part]
    sums = [_weighted(prime, weights, column) for column in _columns(rows, length)]
    return sums[0] != 0 and not any(sums[1:])


def _check(prime, rows):
    check_prime(prime)
    if not isinstance(rows, tuple) or not 1 <= len(rows) <= MOST_ROWS:
        raise BadRows(None)
    for at, row in enumerate(rows):
        if not are_numbers(prime, row, MOST_OF_ROW):
            raise BadRows(at)


def _check_length(prime, rows, length):
    _check(prime, rows)
    check_number(length, 0, _longest(rows))


def _longest(rows):
    return max([len(row) for row in rows])


def _many(row, length):
    """How many numbers a register of a length has to make in a row."""
    return max(0, len(row) - length)


def _places(rows, length):
    """Where the numbers stand that a register of a length has to make: the pairs of a row and an index."""
    return [(row, at) for row in rows for at in range(length, len(row))]


def _columns(rows, length):
    """The numbers that a register of a length has to make, and those one place ahead of them, two places, and so on."""
    places = _places(rows, length)
    return [[row[at - back] for row, at in places] for back in range(length + 1)]


def _weighted(prime, weights, numbers):
    return sum([weight * number for weight, number in zip(weights, numbers)]) % prime


def _parted(rows, length, weights):
    """Weights of all rows, one behind another, as a tuple for each row."""
    parts = []
    at = 0
    for row in rows:
        parts.append(tuple(weights[at:at + _many(row, length)]))
        at += _many(row, length)
    return tuple(parts)


def _least_taps(prime, rows):
    """The taps of a shortest register that makes all rows."""
    # With a tap of 0 behind it a register still makes them, so the lengths can be halved.
    least = 0
    most = _longest(rows)
    found = (0,) * most
    while least < most:
        length = (least + most) // 2
        taps = _taps_of_length(prime, rows, length)
        if taps is None:
            least = length + 1
        else:
            most = length
            found = taps
    return found


def _taps_of_length(prime, rows, length):
    """The taps of a register of a length that makes all rows, None if there is none."""
    columns = _columns(rows, length)
    # A sum of columns that is zero tells taps if the numbers to be made are in it; these stand last.
    found = zero_sums(prime, columns[1:] + columns[:1])
    if not found or found[-1][-1] == 0:
        return None
    return tuple([-weight % prime for weight in found[-1][:-1]])
