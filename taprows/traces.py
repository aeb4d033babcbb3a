"""Rows as traces of elements of fields, and spectra in fields (points 43 and 44)."""

from taprows.checks import MOST_NUMBERS, check_block, check_number, check_prime, check_states, check_wired
from taprows.coefficients import power_rest_of, product_of, rest_of, sum_of, trimmed
from taprows.errors import BadBlock, BadParts, BadSpectrum, NotSingle
from taprows.factors import primitives
from taprows.fields import is_element, is_field, number_of, trace_in
from taprows.growth import least_wired
from taprows.integers import inverse, power_of
from taprows.linear import zero_sums
from taprows.recurrence import first_numbers, modulus_of, taps_of_low
from taprows.splitting import factors_of

MOST_PARTS = 12
MOST_SIZE = 60
MOST_WIDE = 2000


def trace_row(prime, parts, count):
    """The first numbers of the row of the sums of the traces of all weights times powers of x."""
    check_prime(prime)
    _check_parts(prime, parts)
    check_number(count, 0, MOST_NUMBERS)
    rows = [_row_of_part(prime, low, weight, count) for low, weight in parts]
    return tuple([sum([row[at] for row in rows]) % prime for at in range(count)])


def trace_parts(prime, taps, start):
    """The parts whose row is that of a register."""
    check_wired(prime, taps, start)
    check_states(prime, len(taps))
    row = first_numbers(prime, taps, start, 2 * len(taps))
    least, _ = least_wired(prime, row)
    lows = _single_factors(prime, modulus_of(prime, least))
    # The row is a sum of those of the powers of x in all fields, in just one way.
    size = len(least)
    rows = [told for low in lows for told in _rows_of_powers(prime, low, size)]
    sums = zero_sums(prime, rows + [row[:size]])[0]
    parts = []
    at = 0
    for low in lows:
        end = at + len(low) - 1
        parts.append((low, trimmed([-number % prime for number in sums[at:end]])))
        at = end
    return tuple(parts)


def wide_spectrum(prime, block):
    """The pair of the field polynomial and the sums of the numbers of a block times powers of a root."""
    check_prime(prime)
    check_block(prime, block, MOST_SIZE)
    degree = _degree_of(prime, len(block))
    if degree is None:
        raise BadBlock(f"a power of the prime up to {MOST_WIDE} less 1 is divisible by the size")
    low = primitives(prime, degree)[0]
    powers = _root_powers(prime, low, len(block))
    return low, _sums_of(prime, low, [trimmed((number,)) for number in block], powers)


def wide_block(prime, entries):
    """The block with told such sums."""
    check_prime(prime)
    low = _field_of(prime, entries)
    if low is None or not all([is_element(prime, low, entry) for entry in entries]):
        raise BadSpectrum("entries are a tuple of elements of a field")
    size = len(entries)
    powers = _root_powers(prime, low, size)
    # The sums with the inverse root are the numbers of the block, each times the size.
    sums = _sums_of(prime, low, entries, [powers[-place % size] for place in range(size)])
    if not all([len(told) <= 1 for told in sums]):
        raise BadSpectrum("no block has these entries")
    scale = inverse(prime, size)
    return tuple([scale * number_of(told) % prime for told in sums])


def turned_rings(prime, size):
    """The list of the tuples of the indexes that come from one another by the factor prime, modulo a size."""
    check_prime(prime)
    check_number(size, 1, MOST_SIZE)
    if size % prime == 0:
        raise BadBlock("the prime does not divide the size here")
    rings = []
    seen = {}
    for least in range(size):
        ring = []
        at = least
        while at not in seen:
            seen[at] = True
            ring.append(at)
            at = at * prime % size
        if ring:
            rings.append(tuple(ring))
    return rings


def _check_parts(prime, parts):
    if not isinstance(parts, tuple) or len(parts) > MOST_PARTS:
        raise BadParts(None)
    ahead = ()
    for at, part in enumerate(parts):
        if not _is_part(prime, part) or part[0] <= ahead:
            raise BadParts(at)
        ahead = part[0]


def _is_part(prime, value):
    """Whether any value is a pair of a field polynomial other than x and an element other than zero."""
    if not isinstance(value, tuple) or len(value) != 2:
        return False
    low, weight = value
    return is_field(prime, low) and low != (0, 1) and is_element(prime, low, weight) and weight != ()


def _row_of_part(prime, low, weight, count):
    """The first numbers of the row of the traces of a weight times the powers of x."""
    start = []
    for _ in range(len(low) - 1):
        start.append(trace_in(prime, low, weight))
        weight = rest_of(prime, (0,) + weight, low)
    # As low is zero in its field, the row goes on by its taps.
    return first_numbers(prime, taps_of_low(prime, low[::-1]), start, count)


def _single_factors(prime, modulus):
    """The ascending list of the factors of a polynomial, of which none may be x or stand twice."""
    pairs = factors_of(prime, modulus)
    if modulus[0] == 0 or any([exponent > 1 for _, exponent in pairs]):
        raise NotSingle("a factor stands twice, or is x")
    return [low for low, _ in pairs]


def _rows_of_powers(prime, low, size):
    """The first numbers of the rows of the parts whose weights are the powers of x below the degree."""
    degree = len(low) - 1
    row = _row_of_part(prime, low, (1,), size + degree)
    return [row[at:at + size] for at in range(degree)]


def _degree_of(prime, size):
    """The least exponent from 1 on with which the power of the prime less 1 is divisible by a size.

    None if the power would be too large, as it is if the prime divides the size.
    """
    degree = 1
    while power_of(prime, degree) <= MOST_WIDE:
        if (power_of(prime, degree) - 1) % size == 0:
            return degree
        degree += 1
    return None


def _field_of(prime, entries):
    """The field polynomial for any value, None if it is no tuple or of a size that is not let."""
    if not isinstance(entries, tuple) or not 1 <= len(entries) <= MOST_SIZE:
        return None
    degree = _degree_of(prime, len(entries))
    return None if degree is None else primitives(prime, degree)[0]


def _root_powers(prime, low, size):
    """The powers of the root that repeats with a size, from the exponent 0 on."""
    step = (power_of(prime, len(low) - 1) - 1) // size
    return [power_rest_of(prime, (0, 1), step * exponent, low) for exponent in range(size)]


def _sums_of(prime, low, entries, powers):
    """For each power of a root the sum of the entries times its powers."""
    return tuple([_sum_at(prime, low, entries, powers, index) for index in range(len(entries))])


def _sum_at(prime, low, entries, powers, index):
    total = ()
    for place, entry in enumerate(entries):
        total = sum_of(prime, total, product_of(prime, entry, powers[index * place % len(powers)]))
    return rest_of(prime, total, low)
