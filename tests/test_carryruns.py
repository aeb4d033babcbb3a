"""Points 31 and 32: registers with carry, and the least fractions of rows."""

import random
import unittest
from math import gcd

from taprows.carries import fraction_row, row_number
from taprows.carryruns import carry_fraction, carry_register, carry_run, carry_span, least_fraction
from taprows.errors import BadFraction, BadNumber, BadPrime, BadRow, BadStart, BadTaps
from tests.support import (PART, PRIMES, WRONG_PRIMES, all_rows, check_wrong, coprime, most_of, random_row, random_wired,
                           slow_row, value_of, wrong_fractions, wrong_integers, wrong_rows, wrong_starts, wrong_taps)

MOST = 10 ** 70
SMALL = {2: 3, 3: 2, 5: 1, 7: 1}


def slow_carry_run(prime, taps, start, carry, count):
    row = list(start)
    while len(row) < count:
        total = carry
        for back in range(len(taps)):
            total += taps[back] * row[len(row) - 1 - back]
        # The rest is from 0 on, so the quotient is the one that is rounded down.
        rest = (total % prime + prime) % prime
        row.append(rest)
        carry = (total - rest) // prime
    return tuple(row[:count])


def registers(prime):
    return [(taps, start) for size in range(SMALL[prime] + 1) for taps in all_rows(prime, size)
            for start in all_rows(prime, size)]


def large_registers(prime, seed):
    rng = random.Random(seed)
    carries = (0, 1, -1, prime, -prime, MOST, -MOST, MOST - 1, rng.randrange(MOST), -rng.randrange(MOST))
    for size in (0, 1, 2, 5, 20, 59, 60):
        for carry in carries:
            yield *random_wired(rng, prime, size), carry
    for carry in carries:
        yield (prime - 1,) * 60, (prime - 1,) * 60, carry
        yield (0,) * 60, random_row(rng, prime, 60), carry
        yield (0,) * 59 + (1,), random_row(rng, prime, 60), carry


class Runs(unittest.TestCase):

    def test_small_registers(self):
        for prime in PRIMES:
            for taps, start in registers(prime):
                for carry in (-20, -9, -prime, -2, -1, 0, 1, 2, prime, 8, 19):
                    told = carry_run(prime, taps, start, carry, 14)
                    self.assertEqual((type(told), told), (tuple, slow_carry_run(prime, taps, start, carry, 14)))

    def test_large_registers(self):
        for prime in PRIMES:
            for taps, start, carry in large_registers(prime, 1):
                told = carry_run(prime, taps, start, carry, 400)
                self.assertEqual(told, slow_carry_run(prime, taps, start, carry, 400))
                self.assertEqual(len(told), 400)
                for count in (0, 1, 59, 60, 61):
                    self.assertEqual(carry_run(prime, taps, start, carry, count), told[:count])

    def test_no_taps(self):
        for prime in PRIMES:
            for carry in (0, 1, 6, -1, -7, MOST, -MOST):
                told = carry_run(prime, (), (), carry, 400)
                self.assertEqual(told, slow_row(prime, carry, 1, 400))
                self.assertEqual((row_number(prime, told) - carry) % prime ** 400, 0)
            self.assertEqual(carry_run(prime, (), (), -1, 9), (prime - 1,) * 9)

    def test_without_carry_and_taps_the_row_is_zero(self):
        for prime in PRIMES:
            self.assertEqual(carry_run(prime, (0, 0), (1, 1), 0, 6), (1, 1, 0, 0, 0, 0))
            self.assertEqual(carry_run(prime, (1,), (1,), -1, 6), (1, 0, 0, 0, 0, 0))

    def test_wrong(self):
        carries = [value for value in wrong_integers(-MOST, MOST) if type(value) is not int or abs(value) > MOST]
        for prime in PRIMES:
            wrong = [(BadPrime, WRONG_PRIMES), (BadTaps, wrong_taps(prime)), (BadStart, wrong_starts(prime, (1, 0))),
                     (BadNumber, carries), (BadNumber, wrong_integers(0, 400))]
            check_wrong(self, carry_run, (prime, (1, 0), (0, 1), -3, 5), wrong)
            check_wrong(self, carry_fraction, (prime, (1, 0), (0, 1), -3), wrong[:4])
            for carry in (MOST + 1, -MOST - 1):
                self.assertRaises(BadNumber, carry_run, prime, (1,), (1,), carry, 5)
                self.assertRaises(BadNumber, carry_fraction, prime, (), (), carry)


class ToFractions(unittest.TestCase):

    def check(self, prime, taps, start, carry):
        told = carry_fraction(prime, taps, start, carry)
        self.assertEqual([type(part) for part in (told, *told)], [tuple, int, int])
        above, low = told
        self.assertGreater(low, 0)
        self.assertNotEqual(low % prime, 0)
        self.assertEqual(gcd(above, low), 1)
        # Two rows of fractions are one row if so many of their first numbers are.
        self.assertEqual(slow_row(prime, above, low, 400), slow_carry_run(prime, taps, start, carry, 400))
        return told

    def test_small_registers(self):
        for prime in PRIMES:
            for taps, start in registers(prime):
                for carry in (-7, -1, 0, 1, prime, 12):
                    above, low = self.check(prime, taps, start, carry)
                    self.assertEqual(fraction_row(prime, (above, low), 40), carry_run(prime, taps, start, carry, 40))

    def test_large_registers(self):
        for prime in PRIMES:
            for taps, start, carry in large_registers(prime, 2):
                # A fraction that 400 numbers tell for certain has parts that are not too large;
                # that these are, the lows show, which divide the values of the taps.
                above, low = self.check(prime, taps, start, carry)
                whole = value_of(prime, (prime - 1,) + taps) - prime if any(taps) else 1
                self.assertEqual(whole % low, 0)

    def test_zero_taps(self):
        for prime in PRIMES:
            for carry in (0, 1, -1, 8, MOST, -MOST):
                self.assertEqual(carry_fraction(prime, (), (), carry), (carry, 1))
                self.assertEqual(carry_fraction(prime, (0,), (1,), carry), (1 + prime * carry, 1))
                self.assertEqual(carry_fraction(prime, (0, 0), (1, 1), carry), (1 + prime + prime ** 2 * carry, 1))
            self.assertEqual(carry_fraction(prime, (0,) * 60, (0,) * 60, 0), (0, 1))

    def test_common_divisors(self):
        for prime in PRIMES:
            self.assertEqual(carry_fraction(prime, (1,) * 5, (0,) * 5, 0), (0, 1))
            # The rows of -1 and of 1, each by a low other than 1.
            self.assertEqual(carry_fraction(prime, (0, 1), (prime - 1,) * 2, 0), (-1, 1))
            self.assertEqual(carry_fraction(prime, (0, 0, 1), (1, 0, 0), -1), (1, 1))


class ToRegisters(unittest.TestCase):

    def check(self, prime, above, low):
        told = carry_register(prime, (above, low))
        self.assertEqual((type(told), len(told)), (tuple, 3))
        taps, start, carry = told
        self.assertEqual([type(part) for part in told], [tuple, tuple, int])
        self.assertEqual(len(taps), len(start))
        self.assertLessEqual(len(taps), 60)
        # It can be passed on, and its row is the endless one: the fraction tells so.
        common = gcd(above, low)
        self.assertEqual(carry_fraction(prime, taps, start, carry), (above // common, low // common))
        self.assertEqual(carry_run(prime, taps, start, carry, 400), slow_row(prime, above, low, 400))

    def test_small_fractions(self):
        for prime in PRIMES:
            for low in coprime(prime, range(1, 50)):
                for above in list(range(-9, 10)) + [low, -low, 7 * low, -100, 100, 10 ** 9, -10 ** 9, PART, -PART]:
                    self.check(prime, above, low)

    def test_large_fractions(self):
        rng = random.Random(3)
        for prime in PRIMES:
            most = prime ** 61 // prime
            for _ in range(25):
                low = coprime(prime, [rng.randrange(1, most) for _ in range(60)])[0]
                above = rng.randrange(-PART, PART + 1)
                if low <= PART:
                    self.check(prime, above, low)
                    self.check(prime, low, low)
                    self.check(prime, -low, low)

    def test_greatest(self):
        for prime in PRIMES:
            bound = prime ** 61
            seen = []
            for times in range(1, prime):
                for low in range((bound - 1) // times - 3 * prime, (bound - 1) // times + 3 * prime):
                    if low % prime == 0 or (times * low + 1) % prime or low > PART:
                        continue
                    seen.append(times * low + 1 - bound)
                    for above in (1, -1, PART, -PART, low - 1, -low - 1):
                        if abs(above) > PART or gcd(above, low) > 1:
                            continue
                        if times * low + 1 >= bound:
                            self.assertEqual(most_of(self, carry_register, prime, (above, low)), 60)
                        else:
                            self.check(prime, above, low)
            # Just below the bound, at it and beyond it.
            self.assertTrue({-prime, 0, prime} <= set(seen), seen)

    def test_too_many(self):
        for prime in PRIMES:
            for low in coprime(prime, [PART, PART - 1, PART - 3, prime ** 61 + 1]):
                if low > PART:
                    continue
                times = next(u for u in range(1, prime) if (u * low + 1) % prime == 0)
                for above in (1, -1):
                    if times * low + 1 >= prime ** 61:
                        self.assertEqual(most_of(self, carry_register, prime, (above, low)), 60)
                # Common divisors do not count.
                self.check(prime, 0, low)
                self.check(prime, low, low)
                self.check(prime, -low, low)

    def test_wrong(self):
        for prime in PRIMES:
            wrong = [(BadPrime, WRONG_PRIMES), (BadFraction, wrong_fractions(prime))]
            check_wrong(self, carry_register, (prime, (-1, 11)), wrong)
            large = coprime(prime, [PART - 1, PART])[0]
            self.assertEqual(most_of(self, carry_register, prime, (1, large)), 60)
            for value in WRONG_PRIMES:
                self.assertRaises(BadPrime, carry_register, value, (1, large))


def slow_span(prime, row):
    """The least size of a fraction, by trying all denominators."""
    whole = prime ** len(row)
    value = value_of(prime, row)
    best = None
    low = 1
    while best is None or low < best:
        if low % prime:
            above = value * low % whole
            size = max(low, min(above, whole - above))
            best = size if best is None else min(best, size)
        low += 1
    return best


class Least(unittest.TestCase):

    def check(self, prime, row, span):
        self.assertEqual(carry_span(prime, row), span, (prime, row))
        told = least_fraction(prime, row)
        self.assertEqual([type(part) for part in (told, *told)], [tuple, int, int])
        above, low = told
        self.assertGreater(low, 0)
        self.assertNotEqual(low % prime, 0)
        self.assertEqual(gcd(above, low), 1)
        self.assertEqual(max(abs(above), low), span)
        self.assertEqual(slow_row(prime, above, low, len(row)), row)
        return told

    def test_all_short_rows(self):
        for prime in PRIMES:
            for size in range({2: 9, 3: 6, 5: 4, 7: 3}[prime] + 1):
                for row in all_rows(prime, size):
                    self.check(prime, row, slow_span(prime, row))

    def test_longer_rows(self):
        rng = random.Random(4)
        for prime in PRIMES:
            for _ in range(150):
                row = random_row(rng, prime, rng.randrange({2: 20, 3: 12, 5: 8, 7: 7}[prime]))
                self.check(prime, row, slow_span(prime, row))
                row = (0,) * rng.randrange(1, 4) + row[3:]
                self.check(prime, row, slow_span(prime, row))

    def test_told_back(self):
        rng = random.Random(5)
        for prime in PRIMES:
            for size in (1, 2, 3, 10, 1000, 10 ** 12, 10 ** 30, 10 ** 50):
                for _ in range(8):
                    low = coprime(prime, [rng.randrange(1, size + 1) for _ in range(200)] + [1])[0]
                    above = rng.randrange(-size, size + 1)
                    above, low = above // gcd(above, low), low // gcd(above, low)
                    span = max(abs(above), low)
                    count = 0
                    while prime ** count <= 2 * span ** 2:
                        count += 1
                    for more in (count, count + 1, count + 20, 400):
                        row = slow_row(prime, above, low, more)
                        self.assertEqual(self.check(prime, row, span), (above, low))

    def test_zeros(self):
        for prime in PRIMES:
            for size in (1, 2, 5, 399, 400):
                self.assertEqual(self.check(prime, (0,) * size, 1), (0, 1))
                # 1 and -1 are the other fractions of the size 1.
                self.check(prime, (1,) + (0,) * (size - 1), 1)
                self.check(prime, (prime - 1,) * size, 1)
            self.check(prime, (), 1)

    def test_lows_that_the_prime_divides(self):
        for prime in PRIMES:
            for zeros in range(1, {2: 9, 3: 6, 5: 4, 7: 4}[prime]):
                # The least pair of the row's value and prime ** size has a low that the prime divides.
                for number in range(1, prime):
                    for row in ((0,) * zeros + (number,), (0,) * zeros + (number, 1)):
                        self.check(prime, row, slow_span(prime, row))

    def test_long_rows_are_not_beaten(self):
        rng = random.Random(6)
        for prime in PRIMES:
            for size in (40, 99, 399, 400):
                row = random_row(rng, prime, size)
                above, low = self.check(prime, row, carry_span(prime, row))
                span = max(abs(above), low)
                # There is one with a size of at most the root of prime ** size, if the prime lets it; a
                # second one of a lesser size would give a product that is divisible by prime ** size.
                self.assertLessEqual(span ** 2, prime ** (size + 2))
                for _ in range(60):
                    other = rng.randrange(1, span)
                    if other % prime:
                        rest = value_of(prime, row) * other % prime ** size
                        self.assertGreaterEqual(min(rest, prime ** size - rest), span)

    def test_wrong(self):
        for prime in PRIMES:
            wrong = [(BadPrime, WRONG_PRIMES), (BadRow, wrong_rows(prime))]
            check_wrong(self, carry_span, (prime, (1, 0)), wrong)
            check_wrong(self, least_fraction, (prime, (1, 0)), wrong)


if __name__ == "__main__":
    unittest.main()
