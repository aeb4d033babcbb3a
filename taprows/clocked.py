"""Rows of registers that tell others, and the runs and words of blocks (points 35 and 36)."""

from taprows.checks import MOST_NUMBERS, check_block, check_number, check_pair, check_prime
from taprows.recurrence import first_numbers

MOST_READ = 4000
MOST_WORD = 12


def shrunk(one, other, count):
    """The first numbers of the row of those numbers of one's row at whose indexes other's row has 1."""
    check_pair(2, one)
    check_pair(2, other)
    check_number(count, 0, MOST_NUMBERS)
    marks = _row_of(other, MOST_READ)
    return tuple([number for number, mark in zip(_row_of(one, MOST_READ), marks) if mark == 1][:count])


def stepped(one, other, count):
    """The first numbers of the row that goes on in one's row only behind a 1 of other's row."""
    check_pair(2, one)
    check_pair(2, other)
    check_number(count, 0, MOST_NUMBERS)
    numbers = _row_of(one, count)
    row = []
    at = 0
    for told in _row_of(other, count):
        row.append(numbers[at])
        at += told
    return tuple(row)


def voted(one, two, three, count):
    """The first numbers of the row that has 1 where at least two of three rows have 1."""
    check_pair(2, one)
    check_pair(2, two)
    check_pair(2, three)
    check_number(count, 0, MOST_NUMBERS)
    rows = [_row_of(wired, count) for wired in (one, two, three)]
    return tuple([sum([row[at] for row in rows]) // 2 for at in range(count)])


def run_counts(prime, block):
    """The ascending list of the triples (number, length of the run, how often) of a repeated block."""
    check_prime(prime)
    check_block(prime, block)
    size = len(block)
    begins = [at for at in range(size) if block[at] != block[at - 1]]
    ends = begins[1:] + [begin + size for begin in begins[:1]]
    runs = [(block[begin], end - begin) for begin, end in zip(begins, ends)]
    return [(number, length, many) for (number, length), many in _counted(runs)]


def word_counts(prime, size, block):
    """The ascending list of the pairs (word, how often) of the words of a size in a repeated block."""
    check_prime(prime)
    check_number(size, 0, MOST_WORD)
    check_block(prime, block)
    # The block has a number at least, so this is long enough for the word at its last index.
    row = block * (size + 1)
    return _counted([row[at:at + size] for at in range(len(block))])


def _row_of(wired, count):
    taps, start = wired
    return first_numbers(2, taps, start, count)


def _counted(things):
    """The ascending list of the pairs of a thing and how often it stands in a list."""
    counts = {}
    for thing in things:
        counts[thing] = counts.get(thing, 0) + 1
    return sorted(list(counts.items()))
