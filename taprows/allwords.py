"""Blocks in which all words of a size stand (points 27 and 28)."""

from taprows.checks import MOST_ENTRIES, MOST_FOUND, check_block, check_prime, check_size
from taprows.errors import TooMany
from taprows.integers import power_of
from taprows.states import states_of


def first_missing(prime, size, block):
    """The least word of a size that a block does not have, None if it has all."""
    _check(prime, size, block)
    return _missing(prime, size, block)


def has_all_words(prime, size, block):
    """Whether a block has each word of a size at just one index."""
    _check(prime, size, block)
    return _has_all(prime, size, block)


def greedy_block(prime, size):
    """The block that begins with zeros and goes on by the greatest number that makes a new word."""
    _check_words(prime, size)
    row = [0] * size
    seen = {tuple(row): True}
    for _ in range(power_of(prime, size) - size):
        ahead = tuple(row[len(row) - size + 1:])
        number = max([number for number in range(prime) if ahead + (number,) not in seen])
        row.append(number)
        seen[ahead + (number,)] = True
    return tuple(row)


def least_block(prime, size):
    """The least block that has each word of a size at just one index (H. Fredricksen, J. Maiorana, 1978)."""
    _check_words(prime, size)
    block = []
    word = [0]
    # The words that are less than all their turns, in ascending order (J. Duval, 1988).
    while word:
        if size % len(word) == 0:
            block.extend(word)
        word = (word * size)[:size]
        while word and word[-1] == prime - 1:
            word.pop()
        if word:
            word[-1] += 1
    return tuple(block)


def count_all_words(prime, size):
    """How many blocks begin with zeros and have each word of a size at just one index."""
    _check_words(prime, size)
    return _count(prime, size)


def all_words_blocks(prime, size):
    """The ascending list of the blocks that begin with zeros and have each word of a size at just one index."""
    _check_words(prime, size)
    if _count(prime, size) > MOST_FOUND:
        raise TooMany(MOST_FOUND)
    rows = [(0,) * size]
    for _ in range(power_of(prime, size) - size):
        rows = [row + (number,) for row in rows for number in range(prime) if _is_new(size, row, number)]
    return [row for row in rows if _has_all(prime, size, row)]


def _check_words(prime, size):
    check_prime(prime)
    check_size(prime, size)


def _check(prime, size, block):
    _check_words(prime, size)
    check_block(prime, block, MOST_ENTRIES)


def _words_of(size, block):
    """The words at the indexes of a block, in the block repeated without end."""
    row = block * (2 + size // len(block))
    return {row[at:at + size]: True for at in range(len(block))}


def _missing(prime, size, block):
    words = _words_of(size, block)
    for state in states_of(prime, size):
        if state not in words:
            return state
    return None


def _has_all(prime, size, block):
    return len(block) == power_of(prime, size) and _missing(prime, size, block) is None


def _count(prime, size):
    turns = 1
    for number in range(1, prime + 1):
        turns = turns * number
    return power_of(turns, power_of(prime, size - 1)) // power_of(prime, size)


def _is_new(size, row, number):
    """Whether a number makes a word at the end of a row that does not stand in it before."""
    word = (row + (number,))[-size:]
    return not any([row[at:at + size] == word for at in range(len(row) - size + 1)])
