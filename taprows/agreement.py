"""Agreement of rows of bits: turns, shifts, difference sets, complementary pairs (points 21 and 22)."""

from math import gcd

from taprows.checks import MOST_NUMBERS, are_numbers, check_number, is_between
from taprows.errors import BadBits, BadNumber
from taprows.integers import prime_divisors
from taprows.states import states_of

MOST_POWER = 8
MOST_TRIED = 10


def agreements(one, other):
    """For each turn of the other row, how many more indexes have equal numbers than not."""
    _check_two(one, other)
    return _turned(one, other)


def shifted_agreements(one, other):
    """The same for each shift, in which the numbers without one in the other row are not counted."""
    _check_two(one, other)
    return _shifted(one, other)


def is_two_valued(block):
    """Whether the agreements of a block with itself are equal for all turns but 0."""
    _check_bits(block)
    return _are_equal(_turned(block, block)[1:])


def difference_set(block):
    """The pair (places, number): each difference comes from so many pairs of the places of 1; None if not."""
    _check_bits(block)
    size = len(block)
    places = tuple([at for at, number in enumerate(block) if number == 1])
    counts = [0] * size
    for one in places:
        for other in places:
            counts[(one - other) % size] += 1
    # The difference 0 is not asked for.
    counts = counts[1:]
    if not _are_equal(counts):
        return None
    return places, max(counts, default=0)


def merit(row):
    """The square of the size through twice the sum of the squares of the shifted agreements but the first."""
    _check_bits(row)
    squares = sum([agreement * agreement for agreement in _shifted(row, row)[1:]])
    if squares == 0:
        return None
    above, low = len(row) * len(row), 2 * squares
    common = gcd(above, low)
    return above // common, low // common


def is_complementary(one, other):
    """Whether the shifted agreements of two rows with themselves add up to 0 for each shift but 0."""
    _check_two(one, other)
    return not any([a + b for a, b in zip(_shifted(one, one)[1:], _shifted(other, other)[1:])])


def complementary_pair(power):
    """The complementary pair of the size 2 ** power that comes from the pairs of lesser powers."""
    check_number(power, 0, MOST_POWER)
    one, other = (0,), (0,)
    for _ in range(power):
        one, other = one + other, one + tuple([1 - bit for bit in other])
    return one, other


def complementary_pairs(size):
    """The ascending list of all complementary pairs of a size."""
    check_number(size, 1, MOST_TRIED)
    rows = states_of(2, size)
    sums = [_shifted(row, row)[1:] for row in rows]
    partners = {}
    for row, told in zip(rows, sums):
        partners.setdefault(told, []).append(row)
    found = []
    for row, told in zip(rows, sums):
        wanted = tuple([-agreement for agreement in told])
        found.extend([(row, other) for other in partners.get(wanted, [])])
    return found


def squares_block(size):
    """The block of an odd prime number of bits with 0 at the indexes that are squares modulo it."""
    if not is_between(size, 3, MOST_NUMBERS) or prime_divisors(size) != [size]:
        raise BadNumber(f"an odd prime number up to {MOST_NUMBERS} is wanted")
    bits = [1] * size
    for root in range(size):
        bits[root * root % size] = 0
    return tuple(bits)


def _check_bits(value):
    if not are_numbers(2, value, MOST_NUMBERS) or len(value) == 0:
        raise BadBits(f"bits are a tuple of 1 to {MOST_NUMBERS} numbers modulo 2")


def _check_two(one, other):
    _check_bits(one)
    _check_bits(other)
    if len(one) != len(other):
        raise BadBits("two rows of bits are of one size here")


def _turned(one, other):
    return tuple([_agreement(one, other[turn:] + other[:turn]) for turn in range(len(one))])


def _shifted(one, other):
    return tuple([_agreement(one[:len(one) - shift], other[shift:]) for shift in range(len(one))])


def _agreement(one, other):
    """How many more indexes of two rows of one size have equal numbers than not."""
    unlike = sum([a ^ b for a, b in zip(one, other)])
    return len(one) - 2 * unlike


def _are_equal(numbers):
    return not any([number != numbers[0] for number in numbers])
