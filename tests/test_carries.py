"""Points 29 and 30: rows as figures of integers and of fractions."""

import random
import unittest
from fractions import Fraction
from math import gcd

from taprows.carries import (carry_product, carry_quotient, carry_sum, fraction_period, fraction_row, long_lows,
                             number_row, repeated_fraction, row_number)
from taprows.errors import BadBlock, BadFraction, BadNumber, BadPrime, BadRow, OtherSize, ZeroDivisor
from tests.support import (PART, PRIMES, WRONG_PRIMES, all_rows, check_wrong, coprime, error_of, figures, most_of,
                           random_row, row_repeats, slow_row, value_of, wrong_blocks, wrong_fractions, wrong_integers,
                           wrong_rows)

MOST = 10 ** 120
SMALL = {2: 6, 3: 4, 5: 2, 7: 2}


class Figures(unittest.TestCase):

    def test_rows_to_numbers(self):
        rng = random.Random(1)
        for prime in PRIMES:
            rows = [row for size in range(SMALL[prime] + 1) for row in all_rows(prime, size)]
            for row in rows + [random_row(rng, prime, size) for size in (30, 200, 399, 400)]:
                told = row_number(prime, row)
                self.assertEqual((type(told), told), (int, value_of(prime, row)))
                self.assertEqual(number_row(prime, told, len(row)) if told <= MOST else row, row)
            self.assertEqual(row_number(prime, ()), 0)
            self.assertEqual(row_number(prime, (0,) * 400), 0)
            self.assertEqual(row_number(prime, (prime - 1,) * 400), prime ** 400 - 1)

    def test_numbers_to_rows(self):
        rng = random.Random(2)
        numbers = list(range(-40, 41)) + [MOST, -MOST, MOST - 1, 1 - MOST] + [rng.randrange(-MOST, MOST) for _ in range(9)]
        for prime in PRIMES:
            for number in numbers:
                for count in (0, 1, 2, 7, 399, 400):
                    told = number_row(prime, number, count)
                    self.assertEqual(told, figures(prime, number, count))
                    self.assertIs(type(told), tuple)
                    self.assertEqual((value_of(prime, told) - number) % prime ** count, 0)
            self.assertEqual(number_row(prime, -1, 400), (prime - 1,) * 400)

    def test_wrong(self):
        for prime in PRIMES:
            wrong = [(BadPrime, WRONG_PRIMES), (BadRow, wrong_rows(prime))]
            check_wrong(self, row_number, (prime, (1, 0)), wrong)
            values = wrong_integers(-MOST, MOST)
            self.assertTrue({MOST + 1, -MOST - 1} <= {value for value in values if type(value) is int})
            values = [value for value in values if type(value) is not int or abs(value) > MOST]
            wrong = [(BadPrime, WRONG_PRIMES), (BadNumber, values), (BadNumber, wrong_integers(0, 400))]
            check_wrong(self, number_row, (prime, -3, 5), wrong)


class TwoRows(unittest.TestCase):

    def check(self, prime, one, other):
        size = len(one)
        whole = prime ** size
        left, right = value_of(prime, one), value_of(prime, other)
        calls = [(carry_sum, left + right), (carry_product, left * right)]
        if other[:1] != (0,):
            calls.append((carry_quotient, None))
        else:
            self.assertRaises(ZeroDivisor, carry_quotient, prime, one, other)
        for function, value in calls:
            told = function(prime, one, other)
            self.assertEqual((type(told), len(told)), (tuple, size))
            self.assertTrue(all(type(number) is int and 0 <= number < prime for number in told))
            if value is None:
                self.assertEqual((value_of(prime, told) * right - left) % whole, 0)
            else:
                self.assertEqual(value_of(prime, told), value % whole)

    def test_small_rows(self):
        for prime in PRIMES:
            for size in range({2: 4, 3: 3, 5: 2, 7: 1}[prime] + 1):
                for one in all_rows(prime, size):
                    for other in all_rows(prime, size):
                        self.check(prime, one, other)

    def test_larger_rows(self):
        rng = random.Random(3)
        for prime in PRIMES:
            for size in (10, 77, 399, 400):
                one, other = random_row(rng, prime, size), random_row(rng, prime, size)
                self.check(prime, one, other)
                self.check(prime, one, (prime - 1,) + other[1:])
                self.check(prime, (prime - 1,) * size, (prime - 1,) * size)
                self.check(prime, (0,) * size, (1,) * size)
                self.check(prime, one, (1,) + (0,) * (size - 1))

    def test_empty_rows(self):
        for prime in PRIMES:
            for function in (carry_sum, carry_product, carry_quotient):
                self.assertEqual(function(prime, (), ()), ())

    def test_other_sizes(self):
        for prime in PRIMES:
            for function in (carry_sum, carry_product, carry_quotient):
                for one, other in (((), (1,)), ((1,), ()), ((1,) * 399, (1,) * 400), ((1, 0), (1,)), ((0,), (1, 1))):
                    self.assertRaises(OtherSize, function, prime, one, other)
                self.assertRaises(BadRow, function, prime, (1,) * 401, (1,))
                self.assertRaises(BadRow, function, prime, (1,), (1,) * 401)
                self.assertRaises(BadRow, function, prime, (1,), (prime, 1))

    def test_zero_divisor(self):
        for prime in PRIMES:
            for size in (1, 2, 400):
                self.assertRaises(ZeroDivisor, carry_quotient, prime, (1,) * size, (0,) * size)
                self.assertRaises(ZeroDivisor, carry_quotient, prime, (0,) * size, (0,) + (1,) * (size - 1))
                self.assertRaises(BadRow, carry_quotient, prime, (prime,), (0,) * size)
                self.assertRaises(BadPrime, carry_quotient, 4, (1,), (0,) * size)
            # It is an error of the row itself, so it goes ahead of that of the two sizes.
            self.assertRaises(ZeroDivisor, carry_quotient, prime, (1,), (0, 1))

    def test_wrong(self):
        for prime in PRIMES:
            for function in (carry_sum, carry_product, carry_quotient):
                wrong = [(BadPrime, WRONG_PRIMES), (BadRow, wrong_rows(prime)), (BadRow, wrong_rows(prime))]
                check_wrong(self, function, (prime, (1, 0), (1, 1)), wrong)


class Fractions(unittest.TestCase):

    def fractions(self, seed):
        rng = random.Random(seed)
        for prime in PRIMES:
            for above in range(-12, 13):
                for low in coprime(prime, range(1, 13)):
                    yield prime, (above, low)
            great = coprime(prime, [PART, PART - 1, PART - 3])[0]
            for above in (-PART, PART, 0, 1, -1, great, -great):
                yield prime, (above, great)
                yield prime, (above, 1)
            for _ in range(10):
                low = coprime(prime, [rng.randrange(1, PART) for _ in range(40)])[0]
                yield prime, (rng.randrange(-PART, PART + 1), low)

    def test_rows(self):
        for prime, (above, low) in self.fractions(4):
            for count in (0, 1, 2, 19, 400):
                told = fraction_row(prime, (above, low), count)
                self.assertEqual((type(told), told), (tuple, slow_row(prime, above, low, count)))
                # Multiplying back.
                self.assertEqual((value_of(prime, told) * low - above) % prime ** count, 0)

    def test_wrong_rows(self):
        for prime in PRIMES:
            wrong = [(BadPrime, WRONG_PRIMES), (BadFraction, wrong_fractions(prime)), (BadNumber, wrong_integers(0, 400))]
            check_wrong(self, fraction_row, (prime, (1, 1), 5), wrong)
            check_wrong(self, fraction_period, (prime, (1, 1)), wrong[:2])
            self.assertIsNone(error_of(fraction_row, (prime, (-PART, PART - 3 if PART % prime == 0 else PART), 5)))


class Repeated(unittest.TestCase):

    def check(self, prime, ahead, block):
        told = repeated_fraction(prime, ahead, block)
        self.assertEqual([type(part) for part in (told, *told)], [tuple, int, int])
        above, low = told
        self.assertEqual(gcd(above, low), 1)
        self.assertGreater(low, 0)
        count = len(ahead) + 3 * len(block) + 5
        self.assertEqual(slow_row(prime, above, low, count), (ahead + block * 8)[:count])
        whole = prime ** len(block)
        value = value_of(prime, ahead) + Fraction(prime ** len(ahead) * value_of(prime, block), 1 - whole)
        self.assertEqual((above, low), (value.numerator, value.denominator))
        return told

    def test_small_rows(self):
        for prime in PRIMES:
            rows = [row for size in range({2: 4, 3: 2, 5: 2, 7: 1}[prime] + 1) for row in all_rows(prime, size)]
            for ahead in rows:
                for block in rows[1:]:
                    above, low = self.check(prime, ahead, block)
                    self.assertEqual(fraction_row(prime, (above, low), 20), (ahead + block * 20)[:20])

    def test_larger_rows(self):
        rng = random.Random(5)
        for prime in PRIMES:
            for many, more in ((0, 20), (20, 1), (13, 60), (400, 1), (0, 400), (400, 400)):
                self.check(prime, random_row(rng, prime, many), random_row(rng, prime, more))

    def test_edges(self):
        for prime in PRIMES:
            self.assertEqual(repeated_fraction(prime, (), (0,)), (0, 1))
            self.assertEqual(repeated_fraction(prime, (0,) * 400, (0,) * 400), (0, 1))
            self.assertEqual(repeated_fraction(prime, (), (prime - 1,)), (-1, 1))
            self.assertEqual(repeated_fraction(prime, (prime - 1,) * 3, (prime - 1,) * 400), (-1, 1))
            self.assertEqual(repeated_fraction(prime, (1,), (0,)), (1, 1))
            self.assertEqual(repeated_fraction(prime, (), (1,)), (-1, prime - 1))

    def test_wrong(self):
        for prime in PRIMES:
            wrong = [(BadPrime, WRONG_PRIMES), (BadRow, wrong_rows(prime)), (BadBlock, wrong_blocks(prime))]
            check_wrong(self, repeated_fraction, (prime, (), (1,)), wrong)


class Periods(unittest.TestCase):

    def test_by_the_row_itself(self):
        for prime in PRIMES:
            for low in coprime(prime, range(1, 60)):
                for above in list(range(-14, 15)) + [low, -low, low + 1, -low - 1, 999, -999, 3 * low]:
                    row = slow_row(prime, above, low, 400)
                    told = fraction_period(prime, (above, low))
                    self.assertEqual(told, row_repeats(row), (prime, above, low))
                    self.assertEqual([type(part) for part in (told, *told)], [tuple, int, int])

    def test_back_from_repeated_rows(self):
        rng = random.Random(6)
        for prime in PRIMES:
            for many, more in ((0, 1), (5, 3), (9, 8), (30, 2), (40, 6)):
                ahead, block = random_row(rng, prime, many), random_row(rng, prime, more)
                period = next(n for n in range(1, more + 1) if more % n == 0 and block[:n] * (more // n) == block)
                row = ahead + block
                while many and row[many - 1] == row[many - 1 + period]:
                    many -= 1
                self.assertEqual(fraction_period(prime, repeated_fraction(prime, ahead, block)), (many, period))

    def test_common_divisors(self):
        for prime in PRIMES:
            common = coprime(prime, [10 ** 40 + 1, 10 ** 40 + 3])[0]
            for above, low in ((1, 11), (-5, 13), (0, 1), (7, 1), (100, 121)):
                told = fraction_period(prime, (above, low))
                self.assertEqual(fraction_period(prime, (above * common, low * common)), told)
            self.assertEqual(fraction_period(prime, (0, common)), (0, 1))
            self.assertEqual(fraction_period(prime, (-common, common)), (0, 1))
            self.assertEqual(fraction_period(prime, (common, common)), (1, 1))

    def test_nothing_ahead(self):
        for prime in PRIMES:
            for low in coprime(prime, range(1, 40)):
                for above in range(-low - 3, 4):
                    ahead, _ = fraction_period(prime, (above, low))
                    self.assertIs(ahead == 0, -low <= above <= 0)

    def test_greatest(self):
        for prime in PRIMES:
            # 999999999989 is the greatest prime number below 10 ** 12.
            low = 999999999989
            ahead, period = fraction_period(prime, (-1, low))
            self.assertEqual((ahead, (low - 1) % period, pow(prime, period, low)), (0, 0, 1))
            for q in (2, 11, 124847, 182041):
                if period % q == 0:
                    self.assertNotEqual(pow(prime, period // q, low), 1)
            for low in coprime(prime, [10 ** 12, 10 ** 12 - 1]):
                period = fraction_period(prime, (-1, low))[1]
                self.assertEqual(pow(prime, period, low), 1)
                self.assertTrue(all(pow(prime, period // q, low) != 1 for q in range(2, 1000) if period % q == 0))
            ahead, period = fraction_period(prime, (PART, 1))
            self.assertEqual(period, 1)
            self.assertTrue(prime ** (ahead - 1) <= PART < prime ** ahead)
            ahead, period = fraction_period(prime, (-PART, 1))
            self.assertTrue(prime ** (ahead - 1) < PART <= prime ** ahead)

    def test_too_many(self):
        for prime in PRIMES:
            for low in coprime(prime, [10 ** 12 + 1, 10 ** 12 + 2, 10 ** 12 + 3, PART - 1, PART]):
                for above in (1, -1):
                    self.assertEqual(most_of(self, fraction_period, prime, (above, low)), 10 ** 12)
                self.assertEqual(fraction_period(prime, (0, low)), (0, 1))
                self.assertIsNone(error_of(fraction_row, (prime, (1, low), 400)))
            self.assertEqual(fraction_period(prime, (-11, 11 * coprime(prime, [10 ** 12 - 1, 10 ** 12])[0]))[0], 0)


class Lows(unittest.TestCase):

    def test_by_the_rows_themselves(self):
        for prime in PRIMES:
            wanted = []
            for low in range(2, 80):
                if low != prime and all(low % n for n in range(2, low)):
                    row = slow_row(prime, 1, low, 6 * low + 40)
                    if row_repeats(row)[1] == low - 1:
                        wanted.append(low)
            self.assertEqual(long_lows(prime, 79), wanted)

    def test_by_powers(self):
        for prime in PRIMES:
            wanted = []
            for low in range(2, 3001):
                if low == prime or any(low % n == 0 for n in range(2, min(low, 56))):
                    continue
                power, period = prime % low, 1
                while power != 1 % low:
                    power, period = power * prime % low, period + 1
                if period == low - 1:
                    wanted.append(low)
            self.assertEqual(long_lows(prime, 3000), wanted)
            for most in (0, 1, 2, 3, 4, 5, 10, 11, 12, 13, 500, 2999):
                told = long_lows(prime, most)
                self.assertEqual((type(told), told), (list, [low for low in wanted if low <= most]))

    def test_two(self):
        self.assertEqual([long_lows(prime, 2) for prime in PRIMES], [[], [2], [2], [2]])

    def test_wrong(self):
        for prime in PRIMES:
            check_wrong(self, long_lows, (prime, 5), [(BadPrime, WRONG_PRIMES), (BadNumber, wrong_integers(0, 3000))])
        found = long_lows(2, 5)
        found.append(None)
        self.assertEqual(long_lows(2, 5), [3, 5])


if __name__ == "__main__":
    unittest.main()
