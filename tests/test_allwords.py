"""Points 27 and 28: blocks in which all words of a size stand."""

import random
import unittest
from math import factorial

from taprows.allwords import (all_words_blocks, count_all_words, first_missing, greedy_block, has_all_words,
                              least_block)
from taprows.errors import BadBlock, BadPrime, BadSize
from tests.support import (GREATEST_SIZES, PRIMES, WRONG_PRIMES, all_rows, check_wrong, error_of, most_of, random_row,
                           wrong_sizes, wrong_tuples)

# The sizes with so few blocks of prime ** size numbers that all of them can be tried.
TRIED = ((2, 1), (2, 2), (2, 3), (2, 4), (3, 1), (3, 2), (5, 1), (7, 1))


def sizes():
    return [(prime, size) for prime in PRIMES for size in range(1, GREATEST_SIZES[prime] + 1)]


def words_of(size, block):
    return [tuple(block[(at + n) % len(block)] for n in range(size)) for at in range(len(block))]


def slow_missing(prime, size, block):
    words = set(words_of(size, block))
    return next((word for word in all_rows(prime, size) if word not in words), None)


def slow_has_all(prime, size, block):
    return sorted(words_of(size, block)) == all_rows(prime, size)


def slow_blocks(prime, size):
    """All blocks that have each word at one index and begin with zeros, by trying all blocks."""
    many = prime ** size
    behind = all_rows(prime, many - size) if prime ** (many - size) < 10 ** 6 else []
    return [(0,) * size + tail for tail in behind if slow_has_all(prime, size, (0,) * size + tail)]


def slow_greedy(prime, size):
    row = (0,) * size
    while len(row) < prime ** size:
        stood = [row[at:at + size] for at in range(len(row) - size + 1)]
        number = prime - 1
        while (row + (number,))[-size:] in stood:
            number -= 1
        row += (number,)
    return row


def slow_least(prime, size):
    """The least of the blocks, by going back where no block is left."""
    many = prime ** size
    row, seen = [0] * size, {(0,) * size}
    number = 0
    while True:
        while number < prime:
            word = tuple(row[len(row) - size + 1:]) + (number,)
            if word not in seen:
                break
            number += 1
        if number < prime:
            row.append(number)
            seen.add(word)
            if len(row) == many and slow_has_all(prime, size, row):
                return tuple(row)
            number = 0
            continue
        seen.remove(tuple(row[-size:]))
        number = row.pop() + 1


class Missing(unittest.TestCase):

    def test_small_blocks(self):
        for prime, most in ((2, 6), (3, 4), (5, 2), (7, 2)):
            for many in range(1, most + 1):
                for block in all_rows(prime, many):
                    for size in range(1, min(GREATEST_SIZES[prime], 3) + 1):
                        self.assertEqual(first_missing(prime, size, block), slow_missing(prime, size, block))
                        self.assertIs(has_all_words(prime, size, block), slow_has_all(prime, size, block))

    def test_larger_blocks(self):
        rng = random.Random(1)
        for prime, size in sizes():
            for many in (1, 2, 3, 17, prime ** size, 400, 511, 512):
                block = random_row(rng, prime, many)
                self.assertEqual(first_missing(prime, size, block), slow_missing(prime, size, block))
                self.assertIs(has_all_words(prime, size, block), slow_has_all(prime, size, block))

    def test_words_longer_than_the_block(self):
        self.assertEqual(first_missing(2, 9, (0,)), (0,) * 8 + (1,))
        self.assertEqual(first_missing(2, 9, (1,)), (0,) * 9)
        self.assertEqual(first_missing(2, 9, (1, 0)), (0,) * 9)
        self.assertEqual(first_missing(2, 3, (0, 1)), (0, 0, 0))
        self.assertEqual(first_missing(5, 3, (0, 4)), (0, 0, 0))
        for prime, size in sizes():
            self.assertEqual(first_missing(prime, size, (0,)), (0,) * (size - 1) + (1,))
            self.assertIs(has_all_words(prime, size, (0,)), False)

    def test_all_words_more_than_once(self):
        for prime, size in sizes():
            block = greedy_block(prime, size)
            self.assertIsNone(first_missing(prime, size, block))
            self.assertIs(has_all_words(prime, size, block), True)
            if 2 * len(block) <= 512:
                self.assertIsNone(first_missing(prime, size, block * 2))
                self.assertIs(has_all_words(prime, size, block * 2), False)
            if len(block) < 512:
                # The zeros stand there once more.
                self.assertIsNone(first_missing(prime, size, (0,) + block))
                self.assertIs(has_all_words(prime, size, (0,) + block), False)
            # Without one of its zeros the block lacks the word of zeros alone.
            self.assertEqual(first_missing(prime, size, block[1:]), (0,) * size)
            self.assertIs(has_all_words(prime, size, block[1:]), False)
            for turn in (1, len(block) // 2):
                self.assertIs(has_all_words(prime, size, block[turn:] + block[:turn]), True)

    def test_wrong(self):
        for prime in PRIMES:
            blocks = wrong_tuples(prime) + [(), (0,) * 513, (1,) * 513, (0,) * 511 + (prime,)]
            for function in (first_missing, has_all_words):
                for size in (1, GREATEST_SIZES[prime]):
                    wrong = [(BadPrime, WRONG_PRIMES), (BadSize, wrong_sizes(prime)), (BadBlock, blocks)]
                    check_wrong(self, function, (prime, size, (0, 1)), wrong)
                    self.assertIsNone(error_of(function, (prime, size, (0,) * 512)))


class Blocks(unittest.TestCase):

    def test_greedy_blocks(self):
        for prime, size in sizes():
            told = greedy_block(prime, size)
            self.assertEqual(told, slow_greedy(prime, size))
            self.assertIs(type(told), tuple)
            self.assertTrue(slow_has_all(prime, size, told))

    def test_least_blocks(self):
        for prime, size in sizes():
            told = least_block(prime, size)
            self.assertEqual((type(told), told[:size]), (tuple, (0,) * size))
            self.assertTrue(slow_has_all(prime, size, told))
            if prime ** size <= 128:
                self.assertEqual(told, slow_least(prime, size))

    def test_least_of_all(self):
        for prime, size in TRIED:
            self.assertEqual(least_block(prime, size), all_words_blocks(prime, size)[0])

    def test_size_one(self):
        for prime in PRIMES:
            self.assertEqual(least_block(prime, 1), tuple(range(prime)))
            self.assertEqual(greedy_block(prime, 1), (0,) + tuple(range(prime - 1, 0, -1)))

    def test_wrong(self):
        for prime in PRIMES:
            for function in (greedy_block, least_block, count_all_words):
                for size in (1, GREATEST_SIZES[prime]):
                    wrong = [(BadPrime, WRONG_PRIMES), (BadSize, wrong_sizes(prime))]
                    check_wrong(self, function, (prime, size), wrong)
            check_wrong(self, all_words_blocks, (prime, 1), [(BadPrime, WRONG_PRIMES), (BadSize, wrong_sizes(prime))])


class All(unittest.TestCase):

    def test_by_trying(self):
        for prime, size in TRIED:
            told = all_words_blocks(prime, size)
            self.assertIs(type(told), list)
            self.assertEqual(told, sorted(set(told)))
            self.assertEqual(len(told), count_all_words(prime, size))
            for block in told:
                self.assertTrue(slow_has_all(prime, size, block))
                self.assertEqual(block[:size], (0,) * size)
            if (prime, size) != (2, 4) and prime < 7:
                self.assertEqual(told, slow_blocks(prime, size))
        self.assertEqual([len(all_words_blocks(*told)) for told in TRIED], [1, 1, 2, 16, 2, 24, 24, 720])

    def test_blocks_of_sixteen(self):
        self.assertEqual(all_words_blocks(2, 4), slow_blocks(2, 4))

    def test_counts(self):
        for prime, size in sizes():
            wanted, rest = divmod(factorial(prime) ** (prime ** (size - 1)), prime ** size)
            self.assertEqual((count_all_words(prime, size), rest), (wanted, 0))
        self.assertEqual([count_all_words(2, size) for size in range(1, 7)], [1, 1, 2, 16, 2048, 67108864])

    def test_too_many(self):
        for prime, size in sizes():
            if (prime, size) not in TRIED:
                self.assertGreater(count_all_words(prime, size), 2000)
                self.assertEqual(most_of(self, all_words_blocks, prime, size), 2000)
        self.assertRaises(BadPrime, all_words_blocks, 4, 5)

    def test_new_lists(self):
        found = all_words_blocks(2, 2)
        found.append(None)
        self.assertEqual(all_words_blocks(2, 2), [(0, 0, 1, 1)])


if __name__ == "__main__":
    unittest.main()
