"""Points 6 and 7: shortest registers and weights that show that none is shorter."""

import random
import unittest

from taprows.errors import BadNumber, BadPrime, BadRow, TooMany
from taprows.shortest import all_shortest, least_length, lower_bound, shortest, shows_bound
from tests.support import (OTHER_KINDS, PRIMES, WRONG_PRIMES, all_rows, check_wrong, eliminated_least, error_of, random_row,
                           slow_all_taps, slow_least, slow_makes, slow_run, weights_show, wrong_integers, wrong_rows)

SMALL = {2: 8, 3: 5, 5: 3, 7: 3}


def small_rows():
    for prime in PRIMES:
        for size in range(SMALL[prime] + 1):
            yield from ((prime, row) for row in all_rows(prime, size))


def longer_rows(seed):
    """Rows of many sizes: random ones, rows of registers, and such with one number changed or zeros ahead."""
    rng = random.Random(seed)
    for prime in PRIMES:
        for _ in range(25):
            size = rng.randrange(8, 41)
            yield prime, random_row(rng, prime, size)
            many = rng.randrange(1, 13)
            row = slow_run(prime, random_row(rng, prime, many), random_row(rng, prime, many), size)
            yield prime, row
            at = rng.randrange(size)
            yield prime, row[:at] + ((row[at] + 1) % prime,) + row[at + 1:]
            yield prime, (0,) * rng.randrange(20) + random_row(rng, prime, rng.randrange(12))


def long_rows(seed):
    """Rows of 400 numbers with their least lengths."""
    rng = random.Random(seed)
    for prime in PRIMES:
        yield prime, (0,) * 400, 0
        yield prime, (1,) * 400, 1
        yield prime, (0,) * 399 + (prime - 1,), 400
        yield prime, (0,) * 300 + (1,) + random_row(rng, prime, 99), 301
        yield prime, (1,) + (0,) * 398 + (1,), 399
        yield prime, ((0,) * 19 + (1,)) * 20, 20


class Lengths(unittest.TestCase):

    def test_small_rows(self):
        for prime, row in small_rows():
            length = least_length(prime, row)
            self.assertEqual(length, slow_least(prime, row))
            self.check_taps(prime, row, length)

    def test_longer_rows(self):
        for prime, row in longer_rows(1):
            length = least_length(prime, row)
            self.assertEqual(length, eliminated_least(prime, row))
            self.check_taps(prime, row, length)

    def test_long_rows(self):
        for prime, row, length in long_rows(2):
            self.assertEqual(least_length(prime, row), length)
            self.check_taps(prime, row, length)
            if 0 < length:
                self.assertTrue(weights_show(prime, row, length - 1, lower_bound(prime, row, length - 1)))

    def test_long_random_rows(self):
        rng = random.Random(3)
        for prime in PRIMES:
            row = random_row(rng, prime, 400)
            length = least_length(prime, row)
            self.check_taps(prime, row, length)
            self.assertTrue(weights_show(prime, row, length - 1, lower_bound(prime, row, length - 1)))

    def check_taps(self, prime, row, length):
        taps = shortest(prime, row)
        self.assertEqual((type(taps), len(taps)), (tuple, length))
        self.assertTrue(all(type(tap) is int and 0 <= tap < prime for tap in taps))
        self.assertTrue(slow_makes(prime, taps, row))

    def test_edges(self):
        for prime in PRIMES:
            self.assertEqual((least_length(prime, ()), shortest(prime, ())), (0, ()))
            self.assertEqual((least_length(prime, (0,)), shortest(prime, (0,))), (0, ()))
            self.assertEqual(least_length(prime, (1,)), 1)
            self.assertEqual(least_length(prime, (0, 0, 1)), 3)

    def test_wrong(self):
        for function in (least_length, shortest, all_shortest):
            for prime in PRIMES:
                wrong = [(BadPrime, WRONG_PRIMES), (BadRow, wrong_rows(prime))]
                check_wrong(self, function, (prime, (1, 0)), wrong)
                check_wrong(self, function, (prime, (0,) * 400), wrong)


class All(unittest.TestCase):

    def test_small_rows(self):
        for prime, row in small_rows():
            self.assertEqual(all_shortest(prime, row), slow_all_taps(prime, row, slow_least(prime, row)))

    def test_rows_behind_zeros(self):
        rng = random.Random(4)
        for prime, most in ((2, 10), (3, 6), (5, 4), (7, 3)):
            for ahead in range(most):
                row = (0,) * ahead + random_row(rng, prime, most - ahead)
                self.assertEqual(all_shortest(prime, row), slow_all_taps(prime, row, slow_least(prime, row)))

    def test_just_one(self):
        for prime, row in longer_rows(5):
            if 2 * least_length(prime, row) <= len(row):
                self.assertEqual(all_shortest(prime, row), [shortest(prime, row)])

    def test_shortest_is_one_of_them(self):
        for prime, row in small_rows():
            self.assertIn(shortest(prime, row), all_shortest(prime, row))

    def test_many(self):
        for prime, most in ((2, 10), (3, 6), (5, 4), (7, 3)):
            # Behind so many zeros a 1 leaves all taps but these of the register free.
            row = (0,) * (most - 1) + (1,)
            self.assertEqual(all_shortest(prime, row), all_rows(prime, most))
            self.assertEqual(self.most_of(prime, (0,) * most + (1,)), 2000)
            self.assertEqual(self.most_of(prime, (0,) * 399 + (1,)), 2000)
            row = (0,) * 200 + (1,) + (0,) * (200 - most) + (1,) * 2
            row = row[:402 - most]
            found = all_shortest(prime, row)
            self.assertEqual((len(found), found), (prime ** most, sorted(set(found))))
            self.assertTrue(all(len(taps) == 201 and slow_makes(prime, taps, row) for taps in found[::97]))
            self.assertEqual(self.most_of(prime, row[:-1]), 2000)

    def most_of(self, prime, row):
        with self.assertRaises(TooMany) as caught:
            all_shortest(prime, row)
        return caught.exception.most

    def test_new_lists(self):
        found = all_shortest(2, (1, 0, 1))
        found.append(None)
        self.assertEqual(all_shortest(2, (1, 0, 1)), [(0, 1), (1, 1)])
        self.assertIs(type(found), list)


class Bounds(unittest.TestCase):

    def check_bounds(self, prime, row, least):
        for length in range(len(row) + 1):
            weights = lower_bound(prime, row, length)
            if length >= least:
                self.assertIsNone(weights)
                continue
            self.assertIs(type(weights), tuple)
            self.assertTrue(all(type(number) is int and 0 <= number < prime for number in weights))
            self.assertTrue(weights_show(prime, row, length, weights), (prime, row, length, weights))
            self.assertIs(shows_bound(prime, row, length, weights), True)

    def test_small_rows(self):
        for prime, row in small_rows():
            self.check_bounds(prime, row, slow_least(prime, row))

    def test_longer_rows(self):
        for prime, row in longer_rows(6):
            self.check_bounds(prime, row, eliminated_least(prime, row))

    def test_long_rows(self):
        for prime, row, least in long_rows(7):
            for length in {0, least // 2, least - 1, least, 399, 400}:
                if 0 <= length < least:
                    self.assertTrue(weights_show(prime, row, length, lower_bound(prime, row, length)))
                elif length >= least:
                    self.assertIsNone(lower_bound(prime, row, length))

    def test_all_weights(self):
        for prime, size in ((2, 6), (3, 4), (5, 2), (7, 2)):
            for row in [row for n in range(size + 1) for row in all_rows(prime, n)]:
                for length in range(len(row) + 1):
                    for n in {0, len(row) - length - 1, len(row) - length, len(row) - length + 1} - {-1}:
                        for weights in all_rows(prime, n):
                            self.assertIs(shows_bound(prime, row, length, weights),
                                          weights_show(prime, row, length, weights))

    def test_random_weights(self):
        rng = random.Random(8)
        for prime, row in longer_rows(9):
            for _ in range(10):
                length = rng.randrange(len(row) + 1)
                weights = random_row(rng, prime, len(row) - length)
                self.assertIs(shows_bound(prime, row, length, weights), weights_show(prime, row, length, weights))

    def test_no_weights(self):
        for prime in PRIMES:
            self.assertIs(shows_bound(prime, (0, 0, 1), 2, (1,)), True)
            values = OTHER_KINDS[:6] + [1, 0, [1], "1", {0: 1}, {1: 1}, (True,), (prime + 1,), (prime,), (1 - prime,), (-1,),
                                        (None,), ("1",), ((1,),), ([1],), (1, 0), (0, 1), (0,)]
            for value in values:
                self.assertIs(shows_bound(prime, (0, 0, 1), 2, value), False, value)
            for value in ((), 0, None, (0,)):
                self.assertIs(shows_bound(prime, (0, 0, 1), 3, value), False)
            self.assertIs(shows_bound(prime, (), 0, ()), False)
            self.assertIs(shows_bound(prime, (0, 0, 1), 1, (0, True)), False)

    def test_the_whole_size(self):
        for prime in PRIMES:
            self.assertIsNone(lower_bound(prime, (), 0))
            self.assertIsNone(lower_bound(prime, (0,) * 399 + (1,), 400))
            self.assertEqual(len(lower_bound(prime, (0,) * 399 + (1,), 399)), 1)
            self.assertIsNone(lower_bound(prime, (0,) * 400, 0))

    def test_wrong(self):
        for prime in PRIMES:
            for row in ((), (0, 0, 1)):
                wrong = [(BadPrime, WRONG_PRIMES), (BadRow, wrong_rows(prime)), (BadNumber, wrong_integers(0, len(row)))]
                check_wrong(self, lower_bound, (prime, row, len(row)), wrong)
                check_wrong(self, shows_bound, (prime, row, 0, (1,) * len(row)), wrong + [None])
                for value in (None, 5, [1], ()):
                    self.assertIs(error_of(shows_bound, (prime, row, -1, value)), BadNumber)
                    self.assertIs(error_of(shows_bound, (prime, list(row), 0, value)), BadRow)


if __name__ == "__main__":
    unittest.main()
