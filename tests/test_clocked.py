"""Points 35 and 36: registers that tell others, runs and words of blocks."""

import random
import unittest
from functools import lru_cache

from taprows.clocked import run_counts, shrunk, stepped, voted, word_counts
from taprows.errors import BadBlock, BadNumber, BadPrime, BadRegister
from tests.support import (PRIMES, WRONG_PRIMES, all_rows, check_wrong, random_row, random_wired, slow_run, wrong_blocks,
                           wrong_integers, wrong_pairs)

NONE = ((), ())
ONES = ((1,), (1,))
COUNTS = (0, 1, 2, 7, 60, 399, 400)


@lru_cache(None)
def row_of(wired, count):
    return slow_run(2, *wired, count)


def slow_shrunk(one, other, count):
    numbers, marks = row_of(one, 4000), row_of(other, 4000)
    found = []
    for at in range(4000):
        if marks[at] == 1 and len(found) < count:
            found.append(numbers[at])
    return tuple(found)


def slow_stepped(one, other, count):
    numbers, marks = row_of(one, 400), row_of(other, 400)
    return tuple(numbers[sum(marks[:at])] for at in range(count))


def slow_voted(wired, count):
    rows = [row_of(one, 400) for one in wired]
    return tuple(int([row[at] for row in rows].count(1) >= 2) for at in range(count))


def single(at, size):
    """A register whose row is 1 at one index only."""
    return (0,) * size, (0,) * at + (1,) + (0,) * (size - at - 1)


def small():
    return [(taps, start) for size in range(3) for taps in all_rows(2, size) for start in all_rows(2, size)]


def large(seed):
    rng = random.Random(seed)
    return [NONE, ONES, single(0, 1), single(59, 60), ((0,) * 59 + (1,), (0,) * 59 + (1,))] + [
        random_wired(rng, 2, size) for size in (3, 10, 59, 60)]


class Told(unittest.TestCase):

    def check(self, told, wanted):
        self.assertEqual((type(told), told), (tuple, wanted))
        self.assertTrue(all(type(number) is int for number in told))

    def test_shrunk(self):
        for one in small()[::2]:
            for other in small():
                self.check(shrunk(one, other, 12), slow_shrunk(one, other, 12))
        for one in large(1)[-2:]:
            for other in large(2):
                wanted = slow_shrunk(one, other, 400)
                for count in (0, 1, 399, 400):
                    self.check(shrunk(one, other, count), wanted[:count])

    def test_shrunk_is_cut_at_4000(self):
        rng = random.Random(3)
        one = random_wired(rng, 2, 50)
        # A one at each so manyth index, beginning with its last index of that number: 4000 is not reached.
        for size, at in ((40, 39), (60, 0), (60, 59), (37, 3), (20, 19), (11, 10), (10, 9), (9, 8), (50, 49), (43, 0), (43, 1)):
            other = ((0,) * (size - 1) + (1,), (0,) * at + (1,) + (0,) * (size - at - 1))
            wanted = row_of(one, 4000)[at::size]
            for count in (100, 400):
                self.check(shrunk(one, other, count), wanted[:count])
        # The index 3999 counts, the index 4000 does not.
        self.assertEqual(len(shrunk(ONES, ((0,) * 39 + (1,), (0,) * 39 + (1,)), 400)), 100)
        self.assertEqual(len(shrunk(ONES, ((0,) * 42 + (1,), (0,) + (1,) + (0,) * 41), 400)), 93)
        self.assertEqual(len(shrunk(ONES, ((0,) * 42 + (1,), (1,) + (0,) * 42), 400)), 94)
        self.assertEqual(4000 % 43, 1)

    def test_shrunk_without_ones(self):
        for one in large(4)[-3:]:
            for count in (0, 1, 400):
                self.check(shrunk(one, NONE, count), ())
                self.check(shrunk(one, ((1,) * 60, (0,) * 60), count), ())
                self.check(shrunk(one, single(59, 60), count), row_of(one, 60)[59:][:count])
                self.check(shrunk(one, ONES, count), row_of(one, count))

    def test_stepped(self):
        for one in small():
            for other in small():
                self.check(stepped(one, other, 12), slow_stepped(one, other, 12))
        for one in large(5):
            for other in large(6):
                wanted = slow_stepped(one, other, 400)
                for count in COUNTS:
                    self.check(stepped(one, other, count), wanted[:count])

    def test_stepped_edges(self):
        for one in large(7):
            self.check(stepped(one, NONE, 400), row_of(one, 1) * 400)
            self.check(stepped(one, ONES, 400), row_of(one, 400))
            # The first number stands before any step, so a 1 at index 0 moves the second one.
            self.check(stepped(one, single(0, 1), 400), row_of(one, 1) + row_of(one, 2)[1:] * 399)

    def test_voted(self):
        for one in small()[::3]:
            for two in small()[::2]:
                for three in small():
                    self.check(voted(one, two, three, 8), slow_voted((one, two, three), 8))
        rng = random.Random(8)
        for _ in range(30):
            wired = [rng.choice(large(9)) for _ in range(3)]
            wanted = slow_voted(wired, 400)
            for count in COUNTS:
                self.check(voted(*wired, count), wanted[:count])

    def test_voted_edges(self):
        for one in large(10):
            row = row_of(one, 400)
            for wired in ((one, one, NONE), (NONE, one, one), (one, NONE, one), (one, NONE, ONES), (ONES, one, NONE)):
                self.check(voted(*wired, 400), row)
            self.check(voted(one, NONE, NONE, 400), (0,) * 400)
            self.check(voted(one, ONES, ONES, 400), (1,) * 400)

    def test_wrong(self):
        values = wrong_pairs(2)
        counts = (BadNumber, wrong_integers(0, 400))
        for function in (shrunk, stepped):
            wrong = [(BadRegister, values), (BadRegister, values), counts]
            check_wrong(self, function, (((1,), (1,)), NONE, 5), wrong)
        wrong = [(BadRegister, values[::2]), (BadRegister, values[1::2] + values[::7]), (BadRegister, values[::3]), counts]
        check_wrong(self, voted, (((1,), (1,)), NONE, ((0, 1), (1, 1)), 5), wrong)
        for value in values:
            self.assertRaises(BadRegister, voted, value, NONE, NONE, 5)
            self.assertRaises(BadRegister, voted, NONE, value, NONE, 5)
            self.assertRaises(BadRegister, voted, NONE, NONE, value, 5)


def slow_runs(block):
    """The runs that begin in the block, in the block repeated, by walking to their ends."""
    size = len(block)
    if len(set(block)) == 1:
        return []
    endless = block * 3
    counts = {}
    for at in range(size, 2 * size):
        if endless[at] != endless[at - 1]:
            end = at
            while endless[end] == endless[at]:
                end += 1
            counts[endless[at], end - at] = counts.get((endless[at], end - at), 0) + 1
    return [(*run, counts[run]) for run in sorted(counts)]


def blocks(prime, seed):
    rng = random.Random(seed)
    found = [row for size in range(1, {2: 9, 3: 6, 5: 4, 7: 3}[prime] + 1) for row in all_rows(prime, size)]
    for size in (10, 50, 399, 400):
        found.append(random_row(rng, prime, size))
        found.append(tuple(rng.choice((0, 0, 0, 0, 1, prime - 1)) for _ in range(size)))
        found.append((1,) * (size - 1) + (0,))
        found.append((0,) + (1,) * (size - 1))
        found.append((0,) * (size // 2) + (prime - 1,) * (size - size // 2 - 1) + (0,))
    return found


class Runs(unittest.TestCase):

    def test_all(self):
        for prime in PRIMES:
            for block in blocks(prime, 11):
                told = run_counts(prime, block)
                self.assertEqual((type(told), told), (list, slow_runs(block)))
                for triple in told:
                    self.assertEqual([type(part) for part in (triple, *triple)], [tuple, int, int, int])
                if told:
                    self.assertEqual(sum(length * many for _, length, many in told), len(block))

    def test_turned_blocks_have_the_same_runs(self):
        rng = random.Random(12)
        for prime in PRIMES:
            for size in (2, 7, 30, 400):
                block = tuple(rng.choice((0, 0, 1, prime - 1)) for _ in range(size))
                for turn in (1, size // 2, size - 1):
                    self.assertEqual(run_counts(prime, block[turn:] + block[:turn]), run_counts(prime, block))

    def test_edges(self):
        for prime in PRIMES:
            for number in range(prime):
                for size in (1, 2, 3, 400):
                    self.assertEqual(run_counts(prime, (number,) * size), [])
            self.assertEqual(run_counts(prime, (0, 1)), [(0, 1, 1), (1, 1, 1)])
            # Each run of the block counts, also where the block itself repeats a shorter one.
            self.assertEqual(run_counts(prime, (0, 1, 0, 1)), [(0, 1, 2), (1, 1, 2)])
            self.assertEqual(run_counts(prime, (1, 0, 0, 1, 1)), [(0, 2, 1), (1, 3, 1)])
            self.assertEqual(run_counts(prime, (0,) * 399 + (1,)), [(0, 399, 1), (1, 1, 1)])

    def test_wrong(self):
        for prime in PRIMES:
            check_wrong(self, run_counts, (prime, (1, 0)), [(BadPrime, WRONG_PRIMES), (BadBlock, wrong_blocks(prime))])


def slow_words(size, block):
    endless = block
    while len(endless) < len(block) + size:
        endless += block
    words = [endless[at:at + size] for at in range(len(block))]
    return [(word, words.count(word)) for word in sorted(set(words))]


class Words(unittest.TestCase):

    def test_all(self):
        for prime in PRIMES:
            for block in blocks(prime, 13):
                for size in (0, 1, 2, 3, 5, 11, 12) if len(block) < 10 else (0, 1, 2, 12):
                    told = word_counts(prime, size, block)
                    self.assertEqual((type(told), told), (list, slow_words(size, block)))
                    self.assertEqual(sum(many for _, many in told), len(block))

    def test_kinds(self):
        for word, many in word_counts(3, 2, (0, 1, 2, 1, 0)):
            self.assertEqual([type(word), type(many)], [tuple, int])
        self.assertIs(type(word_counts(2, 1, (0, 1))[0]), tuple)

    def test_edges(self):
        for prime in PRIMES:
            for block in ((1,), (0, 1), (1,) * 400, (0,) * 11 + (1,)):
                self.assertEqual(word_counts(prime, 0, block), [((), len(block))])
            # Words longer than the block.
            self.assertEqual(word_counts(prime, 12, (1,)), [((1,) * 12, 1)])
            self.assertEqual(word_counts(prime, 3, (0, 1)), [((0, 1, 0), 1), ((1, 0, 1), 1)])
            self.assertEqual(word_counts(prime, 2, (0, 0)), [((0, 0), 2)])

    def test_wrong(self):
        for prime in PRIMES:
            wrong = [(BadPrime, WRONG_PRIMES), (BadNumber, wrong_integers(0, 12)), (BadBlock, wrong_blocks(prime))]
            check_wrong(self, word_counts, (prime, 2, (1, 0)), wrong)


if __name__ == "__main__":
    unittest.main()
