"""Points 12, 13 and 15: blocks that are repeated."""

import random
import unittest
from collections import Counter

from taprows.errors import BadBlock, BadNumber, BadPrime
from taprows.periods import (block_fraction, block_taps, count_blocks, from_spectrum, least_period, power_length,
                             spectrum)
from taprows.polys import combination
from tests.support import (PRIMES, WRONG_PRIMES, all_rows, check_wrong, cut, eliminated_least, random_row, slow_least,
                           slow_makes, slow_product, wrong_blocks, wrong_integers)

SMALL = {2: 7, 3: 4, 5: 3, 7: 3}
POWERS = {2: (1, 2, 4, 8, 16, 32, 64, 128, 256), 3: (1, 3, 9, 27, 81, 243), 5: (1, 5, 25, 125), 7: (1, 7, 49, 343)}
DIVISORS = {2: (1,), 3: (1, 2), 5: (1, 2, 4), 7: (1, 2, 3, 6)}


def small_blocks():
    for prime in PRIMES:
        for size in range(1, SMALL[prime] + 1):
            yield from ((prime, block) for block in all_rows(prime, size))


def larger_blocks(seed, sizes):
    """Blocks of these sizes: random ones, and such that repeat within themselves."""
    rng = random.Random(seed)
    for prime in PRIMES:
        for size in sizes:
            yield prime, random_row(rng, prime, size)
            inner = rng.choice([n for n in range(1, size + 1) if size % n == 0])
            yield prime, random_row(rng, prime, inner) * (size // inner)
            yield prime, (0,) * (size - 1) + (prime - 1,)
            yield prime, (prime - 1,) * size
            yield prime, (0,) * size


def walked_period(block):
    """The least period of the endless row, by walking."""
    many = 2 * len(block)
    row = block * 3
    return next(n for n in range(1, len(block) + 1) if all(row[at] == row[at + n] for at in range(many)))


class Periods(unittest.TestCase):

    def test_periods(self):
        for prime, block in list(small_blocks()) + list(larger_blocks(1, list(range(8, 40)) + [360, 399, 400])):
            self.assertEqual(least_period(prime, block), walked_period(block))

    def test_divisors_only(self):
        # A beginning that comes again at the end does not make a period.
        self.assertEqual(least_period(2, (0, 1, 0, 1, 0)), 5)
        self.assertEqual(least_period(2, (0, 0, 1, 0, 0, 1, 0)), 7)
        self.assertEqual(least_period(3, (1, 2) * 200), 2)
        self.assertEqual(least_period(7, (6,)), 1)
        self.assertEqual(least_period(7, (0,) * 400), 1)

    def test_wrong(self):
        for function in (least_period, block_fraction, block_taps):
            for prime in PRIMES:
                wrong = [(BadPrime, WRONG_PRIMES), (BadBlock, wrong_blocks(prime))]
                check_wrong(self, function, (prime, (0, 1)), wrong)
                check_wrong(self, function, (prime, (0,) * 400), wrong)


class Fractions(unittest.TestCase):

    def check(self, prime, block):
        told = block_fraction(prime, block)
        self.assertIs(type(told), tuple)
        above, low = told
        self.assertEqual(low[0], 1)
        self.assertEqual((above, low), (cut(above), cut(low)))
        self.assertTrue(all(type(number) is int and 0 <= number < prime for number in above + low))
        row = block * (2 + 3 * len(low) // len(block))
        product = slow_product(prime, row, low)
        self.assertEqual(cut(product[:len(row)]), above)
        return above, low

    def test_small_blocks(self):
        for prime, block in small_blocks():
            above, low = self.check(prime, block)
            self.assertEqual(combination(prime, above, low)[0], (1,))

    def test_larger_blocks(self):
        for prime, block in larger_blocks(2, list(range(8, 30)) + [99, 100]):
            above, low = self.check(prime, block)
            self.assertEqual(combination(prime, above, low)[0], (1,))

    def test_largest_blocks(self):
        for prime, block in larger_blocks(3, [399, 400]):
            self.check(prime, block)

    def test_edges(self):
        for prime in PRIMES:
            self.assertEqual(block_fraction(prime, (0,)), ((), (1,)))
            self.assertEqual(block_fraction(prime, (0,) * 400), ((), (1,)))
            self.assertEqual(block_fraction(prime, (prime - 1,)), ((prime - 1,), (1, prime - 1)))
            self.assertEqual(block_fraction(prime, (1,) + (0,) * 399), ((1,), (1,) + (0,) * 399 + (prime - 1,)))


class Taps(unittest.TestCase):

    def test_small_blocks(self):
        for prime, block in small_blocks():
            taps = block_taps(prime, block)
            self.assertEqual((type(taps), len(taps)), (tuple, slow_least(prime, block * 2)))
            self.assertTrue(slow_makes(prime, taps, block * 4))

    def test_larger_blocks(self):
        for prime, block in larger_blocks(4, range(8, 30, 3)):
            taps = block_taps(prime, block)
            self.assertEqual(len(taps), eliminated_least(prime, block * 2))
            self.assertTrue(slow_makes(prime, taps, block * 3))
            self.assertTrue(all(type(tap) is int and 0 <= tap < prime for tap in taps))

    def test_largest_blocks(self):
        for prime in PRIMES:
            self.assertEqual(block_taps(prime, (0,) * 399 + (1,)), (0,) * 399 + (1,))
            self.assertEqual(block_taps(prime, (1,) * 400), (1,))
            self.assertEqual(block_taps(prime, (0,) * 400), ())
            self.assertEqual(block_taps(prime, (0, 1) * 200), (0, 1))

    def test_one_number(self):
        for prime in PRIMES:
            self.assertEqual([block_taps(prime, (number,)) for number in range(prime)], [()] + [(1,)] * (prime - 1))


class PowerSizes(unittest.TestCase):

    def test_small_blocks(self):
        for prime, block in small_blocks():
            if len(block) in POWERS[prime]:
                self.assertEqual(power_length(prime, block), slow_least(prime, block * 2))

    def test_larger_blocks(self):
        rng = random.Random(5)
        for prime in PRIMES:
            for size in POWERS[prime]:
                for block in ((0,) * size, (1,) * size, (0,) * (size - 1) + (1,), random_row(rng, prime, size)):
                    length = power_length(prime, block)
                    self.assertEqual(length, len(block_taps(prime, block)))
                    if size <= 32:
                        self.assertEqual(length, eliminated_least(prime, block * 2))
                self.assertEqual(power_length(prime, (0,) * size), 0)
                self.assertEqual(power_length(prime, (1,) * size), 1)
                self.assertEqual(power_length(prime, (0,) * (size - 1) + (1,)), size)

    def test_counts(self):
        for prime, most in ((2, 3), (3, 1), (5, 1), (7, 0)):
            for exponent in range(most + 1):
                size = prime ** exponent
                found = Counter(power_length(prime, block) for block in all_rows(prime, size))
                for length in range(size + 1):
                    self.assertEqual(count_blocks(prime, exponent, length), found[length])

    def test_counts_by_products(self):
        # x ** 9 - 1 is (x - 1) ** 9 modulo 3: the length is 9 less the power of x - 1 in the block.
        found = Counter()
        for block in all_rows(3, 9):
            values, length = list(block), 9
            while length and sum(values) % 3 == 0:
                values = [sum(values[:n + 1]) % 3 for n in range(len(values) - 1)]
                length -= 1
            found[length] += 1
        self.assertEqual([count_blocks(3, 2, length) for length in range(10)], [found[length] for length in range(10)])

    def test_sums_of_counts(self):
        for prime, exponent in ((2, 0), (2, 8), (3, 5), (5, 3), (7, 3), (7, 0), (3, 6)):
            size = prime ** exponent
            counts = [count_blocks(prime, exponent, length) for length in range(size + 1)]
            self.assertEqual(sum(counts), prime ** size)

    def test_largest_exponent(self):
        for prime in PRIMES:
            self.assertEqual(count_blocks(prime, 8, 0), 1)
            self.assertEqual(count_blocks(prime, 8, 1), prime - 1)
            self.assertEqual(count_blocks(prime, 8, 256), (prime - 1) * prime ** 255)
        self.assertEqual(count_blocks(3, 8, 6561), 2 * 3 ** 6560)
        self.assertEqual(count_blocks(5, 8, 390625), 4 * 5 ** 390624)

    def test_wrong(self):
        for prime in PRIMES:
            sizes = [n for n in range(1, 401) if n not in POWERS[prime]]
            wrong = [(BadPrime, WRONG_PRIMES), (BadBlock, wrong_blocks(prime) + [(1,) * n for n in sizes[::7] + sizes[:9]])]
            for size in POWERS[prime]:
                check_wrong(self, power_length, (prime, (1,) * size), wrong if size < 10 else [wrong[0], None])
            for n in sizes:
                self.assertRaises(BadBlock, power_length, prime, (0,) * n)
            for exponent in (0, 1, 3, 8):
                wrong = [(BadPrime, WRONG_PRIMES), (BadNumber, wrong_integers(0, 8)),
                         (BadNumber, wrong_integers(0, prime ** exponent))]
                check_wrong(self, count_blocks, (prime, exponent, 1), wrong)


class Spectra(unittest.TestCase):

    def slow_root(self, prime, size):
        """The least number whose powers repeat with a least period."""
        for number in range(1, prime):
            powers = [number ** n % prime for n in range(3 * prime)]
            if walked_period(tuple(powers[:(prime - 1)])) == size:
                return number

    def test_all_blocks(self):
        for prime in PRIMES:
            for size in DIVISORS[prime]:
                root = self.slow_root(prime, size)
                blocks = all_rows(prime, size)
                for block in blocks if size < 6 else blocks[::101]:
                    told = spectrum(prime, block)
                    wanted = [sum(block[j] * root ** (i * j) for j in range(size)) % prime for i in range(size)]
                    self.assertEqual(told, tuple(wanted))
                    self.assertEqual(from_spectrum(prime, told), block)
                    self.assertEqual(spectrum(prime, from_spectrum(prime, block)), block)
                    self.assertEqual(len(block_taps(prime, block)), sum(number != 0 for number in told))
                    for row in (told, from_spectrum(prime, block)):
                        self.assertTrue(all(type(number) is int and 0 <= number < prime for number in row))

    def test_least_roots(self):
        self.assertEqual(spectrum(7, (0, 1, 0, 0, 0, 0)), (1, 3, 2, 6, 4, 5))
        self.assertEqual(spectrum(7, (0, 1, 0)), (1, 2, 4))
        self.assertEqual(spectrum(5, (0, 1, 0, 0)), (1, 2, 4, 3))
        self.assertEqual(spectrum(3, (0, 1)), (1, 2))
        self.assertEqual(from_spectrum(5, (1, 2, 4, 3)), (0, 1, 0, 0))

    def test_one_number(self):
        for prime in PRIMES:
            for number in range(prime):
                self.assertEqual(spectrum(prime, (number,)), (number,))
                self.assertEqual(from_spectrum(prime, (number,)), (number,))

    def test_wrong(self):
        for function in (spectrum, from_spectrum):
            for prime in PRIMES:
                sizes = [n for n in range(1, 401) if n not in DIVISORS[prime]]
                values = wrong_blocks(prime) + [(1,) * n for n in sizes[:12]]
                for size in DIVISORS[prime]:
                    check_wrong(self, function, (prime, (1,) * size), [(BadPrime, WRONG_PRIMES), (BadBlock, values)])
                for n in sizes:
                    self.assertRaises(BadBlock, function, prime, (0,) * n)


if __name__ == "__main__":
    unittest.main()
