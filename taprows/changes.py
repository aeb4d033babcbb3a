"""Blocks modulo 2 that few changes make shorter (point 14; M. Stamp, C. Martin, 1993)."""

from taprows.checks import are_so_many, check_block, check_number, is_between
from taprows.errors import BadBlock

MOST_SIZE = 256


def changed_length(block, most):
    """The pair (length, other block): the least length that at most so many changes make, and one with it."""
    _check(block)
    check_number(most, 0, len(block))
    return _changed(block, most)


def shows_change(block, most, value):
    """Whether any value is such a pair."""
    _check(block)
    check_number(most, 0, len(block))
    if not isinstance(value, tuple) or len(value) != 2:
        return False
    length, other = value
    if not is_between(length, 0, len(block)) or not are_so_many(2, other, len(block)):
        return False
    least, _ = _changed(block, most)
    return length == least and _length_of(other) == least and _changes(block, other) <= most


def changes_to_lower(block):
    """The least number of changes that make a block with a lesser length, None for blocks of zeros."""
    _check(block)
    length = _length_of(block)
    return _changes(block, _nearest(block, length - 1)) if length > 0 else None


def steps(block):
    """The list of the pairs (changes, length) with which the length becomes less."""
    _check(block)
    length = _length_of(block)
    found = [(0, length)]
    while length > 0:
        changes = _changes(block, _nearest(block, length - 1))
        length, _ = _changed(block, changes)
        found.append((changes, length))
    return found


def _check(block):
    check_block(2, block)
    size = len(block)
    if size > MOST_SIZE or size & (size - 1) != 0:
        raise BadBlock(f"the size is a power of 2 up to {MOST_SIZE} here")


def _length_of(block):
    """The length of a block (R. Games, A. Chan, 1983)."""
    length = 0
    while len(block) > 1:
        half = len(block) // 2
        left, right = block[:half], block[half:]
        if left == right:
            block = left
        else:
            block = _sums(left, right)
            length += half
    return length + block[0]


def _changes(block, other):
    """How many numbers two blocks of one size have that are unlike."""
    return sum(_sums(block, other))


def _sums(left, right):
    return tuple([one ^ other for one, other in zip(left, right)])


def _changed(block, most):
    """The least length that at most so many changes make, and a block that has it."""
    # More length never asks for more changes, so the least one is found by halving.
    low, high = 0, _length_of(block)
    while low < high:
        middle = (low + high) // 2
        if _changes(block, _nearest(block, middle)) <= most:
            high = middle
        else:
            low = middle + 1
    return low, _nearest(block, low)


def _nearest(block, length):
    """A block of at most a length that comes from a block by the fewest changes."""
    return _cheapest([(number, 1 - number) for number in block], length)


def _cheapest(costs, length):
    """A block of at most a length that costs least; costs has for each place what a 0 and what a 1 costs."""
    if len(costs) == 1:
        zero, one = costs[0]
        return (1,) if length > 0 and one < zero else (0,)
    half = len(costs) // 2
    pairs = list(zip(costs[:half], costs[half:]))
    # Blocks of at most half the size have equal halves; the length of all others is the
    # half more than that of the sum of their halves, one of which is free then.
    if length <= half:
        part = _cheapest([(a[0] + b[0], a[1] + b[1]) for a, b in pairs], length)
        return part + part
    sums = _cheapest([(_sum_cost(a, b, 0), _sum_cost(a, b, 1)) for a, b in pairs], length - half)
    left = tuple([_left_number(a, b, number) for (a, b), number in zip(pairs, sums)])
    return left + _sums(left, sums)


def _sum_cost(a, b, number):
    """What two places cost at least whose sum is a number."""
    return min(a[0] + b[number], a[1] + b[1 - number])


def _left_number(a, b, number):
    """The number in the left one of two such places."""
    return 0 if a[0] + b[number] <= a[1] + b[1 - number] else 1
