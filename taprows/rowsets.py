"""All rows of a size and a least length, without checks of the arguments."""

from taprows.growth import grown
from taprows.integers import power_of
from taprows.recurrence import first_numbers, next_number
from taprows.states import states_of


def count_of(prime, size, length):
    """How many rows of a size have a least length (point 9)."""
    if length == 0:
        return 1
    return (prime - 1) * power_of(prime, min(2 * length - 1, 2 * size - 2 * length))


def rows_with(prime, size, length):
    """All rows of a size with a least length, in any order."""
    if length == 0:
        return [(0,) * size]
    # From twice the length on the row goes on by its only register.
    if size > 2 * length:
        return [_lengthened(prime, row, length, size) for row in rows_with(prime, 2 * length, length)]
    rows = []
    # The last jump comes from a shorter length; behind it all numbers are free.
    for shorter in range(min(size - length, length - 1) + 1):
        jump = length + shorter - 1
        tails = states_of(prime, size - jump - 1)
        for row in rows_with(prime, jump, shorter):
            heads = _unexpected(prime, row, shorter)
            rows.extend([head + tail for head in heads for tail in tails])
    return rows


def _only_taps(prime, row, length):
    """The taps of the only register of a length that makes a row of at least twice as many numbers."""
    return grown(prime, row[:2 * length]).taps()


def _lengthened(prime, row, length, size):
    return first_numbers(prime, _only_taps(prime, row, length), row, size)


def _unexpected(prime, row, length):
    """A row with each number behind it with which it does not go on by its register."""
    expected = next_number(prime, _only_taps(prime, row, length), row)
    return [row + (number,) for number in range(prime) if number != expected]
