"""Point 2: sums, products, division, common divisors and powers of polynomials."""

import random
import unittest

from taprows.errors import BadNumber, BadPolynomial, BadPrime, ZeroDivisor
from taprows.polys import combination, divide, poly_product, poly_sum, power_rest
from tests.support import (PRIMES, WRONG_PRIMES, all_polynomials, check_wrong, cut, random_polynomial, slow_divisors,
                           slow_product, slow_sum, wrong_integers, wrong_polynomials)

HUGE = 10 ** 18
SMALL = {2: 4, 3: 3, 5: 2, 7: 2}


def pairs(seed):
    """Pairs of polynomials modulo each prime: all small ones, and some of many sizes."""
    rng = random.Random(seed)
    for prime in PRIMES:
        small = all_polynomials(prime, SMALL[prime])
        yield from ((prime, a, b) for a in small for b in small)
        for _ in range(150):
            yield prime, random_polynomial(rng, prime, rng.randrange(30)), random_polynomial(rng, prime, rng.randrange(30))
        for sizes in ((201, 201), (201, 1), (1, 201), (0, 201), (201, 0), (201, 100), (200, 201)):
            yield prime, *(random_polynomial(rng, prime, size) for size in sizes)


class Sums(unittest.TestCase):

    def test_sums(self):
        for prime, a, b in pairs(1):
            self.assertEqual(poly_sum(prime, a, b), slow_sum(prime, a, b))

    def test_leading_numbers_that_vanish(self):
        self.assertEqual(poly_sum(7, (1, 2, 3), (1, 5, 4)), (2,))
        self.assertEqual(poly_sum(5, (1, 2, 3), (4, 3, 2)), ())
        self.assertEqual(poly_sum(2, (1,) * 201, (0,) * 200 + (1,)), (1,) * 200)

    def test_products(self):
        for prime, a, b in pairs(2):
            self.assertEqual(poly_product(prime, a, b), slow_product(prime, a, b))

    def test_products_may_be_longer(self):
        for prime in PRIMES:
            big = (0,) * 200 + (prime - 1,)
            self.assertEqual(poly_product(prime, big, big), (0,) * 400 + (1,))

    def test_zero(self):
        for prime in PRIMES:
            self.assertEqual(poly_product(prime, (), (1,) * 201), ())
            self.assertEqual(poly_product(prime, (1,) * 201, ()), ())
            self.assertEqual(poly_sum(prime, (), ()), ())
            self.assertEqual(poly_sum(prime, (), (0, 1)), (0, 1))

    def test_wrong(self):
        for function in (poly_sum, poly_product, combination):
            for prime in PRIMES:
                wrong = [(BadPrime, WRONG_PRIMES)] + [(BadPolynomial, wrong_polynomials(prime))] * 2
                check_wrong(self, function, (prime, (1, 1), (0, 1)), wrong)
                check_wrong(self, function, (prime, (), ()), wrong)


class Division(unittest.TestCase):

    def test_division(self):
        for prime, a, b in pairs(3):
            if not b:
                continue
            told = divide(prime, a, b)
            self.assertIs(type(told), tuple)
            quotient, rest = told
            self.assertEqual(slow_sum(prime, slow_product(prime, quotient, b), rest), a)
            self.assertLess(len(rest), len(b))
            for part in told:
                self.assertEqual(part, cut(number % prime for number in part))

    def test_edges(self):
        self.assertEqual(divide(7, (1, 2, 3), (3,)), ((5, 3, 1), ()))
        self.assertEqual(divide(5, (1, 2), (3, 4)), ((3,), (2,)))
        self.assertEqual(divide(3, (1, 2), (0, 0, 1)), ((), (1, 2)))
        self.assertEqual(divide(3, (), (0, 0, 1)), ((), ()))
        self.assertEqual(divide(2, (1,), (1,)), ((1,), ()))

    def test_wrong(self):
        for prime in PRIMES:
            wrong = [(BadPrime, WRONG_PRIMES), (BadPolynomial, wrong_polynomials(prime)),
                     (BadPolynomial, wrong_polynomials(prime))]
            check_wrong(self, divide, (prime, (1, 1), (0, 1)), wrong)

    def test_zero_divisor(self):
        for prime in PRIMES:
            wrong = [(BadPrime, WRONG_PRIMES), (BadPolynomial, wrong_polynomials(prime)), (ZeroDivisor, [()])]
            check_wrong(self, divide, (prime, (1, 1), (0, 1)), wrong)
            for a in ((), (1,), (0, 1)):
                self.assertRaises(ZeroDivisor, divide, prime, a, ())


class Combinations(unittest.TestCase):

    def test_combinations(self):
        for prime, a, b in pairs(4):
            told = combination(prime, a, b)
            self.assertEqual((type(told), len(told)), (tuple, 3))
            d, s, t = told
            self.assertEqual(slow_sum(prime, slow_product(prime, s, a), slow_product(prime, t, b)), d)
            for part in told:
                self.assertEqual(part, cut(number % prime for number in part))
            if not a and not b:
                self.assertEqual(d, ())
                continue
            self.assertEqual(d[-1], 1)
            # A common divisor that is itself a combination is the greatest one.
            for part in (a, b):
                if part:
                    self.assertEqual(divide(prime, part, d)[1], ())

    def test_greatest(self):
        for prime, size in ((2, 4), (3, 3), (5, 2), (7, 2)):
            parts = [part for part in all_polynomials(prime, size) if part]
            divisors = {part: slow_divisors(prime, part) for part in parts}
            for a in parts:
                for b in parts:
                    common = divisors[a] & divisors[b]
                    self.assertEqual(combination(prime, a, b)[0], max(common, key=len))

    def test_common_factors(self):
        rng = random.Random(5)
        for prime in PRIMES:
            for _ in range(30):
                factor, a, b = (random_polynomial(rng, prime, rng.randrange(1, 12)) for _ in range(3))
                a, b = slow_product(prime, factor, a), slow_product(prime, factor, b)
                self.assertEqual(divide(prime, combination(prime, a, b)[0], factor)[1], ())

    def test_zero(self):
        self.assertEqual(combination(5, (), ())[0], ())
        self.assertEqual(combination(5, (), (2, 3))[0], (4, 1))
        self.assertEqual(combination(7, (3,), ())[0], (1,))


class Powers(unittest.TestCase):

    def test_small_exponents(self):
        rng = random.Random(6)
        for prime in PRIMES:
            for _ in range(20):
                a = random_polynomial(rng, prime, rng.randrange(8))
                modulus = random_polynomial(rng, prime, rng.randrange(1, 6))
                power = (1,)
                for exponent in range(12):
                    self.assertEqual(power_rest(prime, a, exponent, modulus), divide(prime, power, modulus)[1])
                    power = slow_product(prime, power, a)

    def test_exponent_zero(self):
        for prime in PRIMES:
            for a in ((), (1,), (0, 1), (1,) * 201):
                self.assertEqual(power_rest(prime, a, 0, (1, 1)), (1,))
                self.assertEqual(power_rest(prime, a, 0, (prime - 1,)), ())

    def test_constant_modulus(self):
        for prime in PRIMES:
            for exponent in (0, 1, 7, HUGE):
                self.assertEqual(power_rest(prime, (1, 1), exponent, (prime - 1,)), ())

    def test_powers_of_zero(self):
        for prime in PRIMES:
            self.assertEqual(power_rest(prime, (), 1, (0, 1)), ())
            self.assertEqual(power_rest(prime, (), HUGE, (0, 1)), ())

    def test_huge_exponents_repeat(self):
        # The powers of x repeat with these least periods, found by walking below.
        for prime, modulus in ((2, (1, 1, 0, 1)), (3, (1, 0, 1)), (5, (3, 1, 1)), (7, (6, 6, 1)), (7, (4, 1))):
            powers = []
            power = (1,)
            while power not in powers:
                powers.append(power)
                power = divide(prime, slow_product(prime, power, (0, 1)), modulus)[1]
            self.assertEqual(power, (1,))
            for exponent in range(HUGE - 60, HUGE + 1):
                self.assertEqual(power_rest(prime, (0, 1), exponent, modulus), powers[exponent % len(powers)])

    def test_huge_exponents_add_up(self):
        rng = random.Random(7)
        for prime in PRIMES:
            a, modulus = random_polynomial(rng, prime, 14), random_polynomial(rng, prime, 11)
            for _ in range(5):
                one, other = rng.randrange(HUGE // 2), rng.randrange(HUGE // 2)
                powers = [power_rest(prime, a, exponent, modulus) for exponent in (one, other, one + other)]
                self.assertEqual(divide(prime, slow_product(prime, powers[0], powers[1]), modulus)[1], powers[2])

    def test_largest(self):
        for prime in PRIMES:
            modulus = (1,) + (0,) * 199 + (1,)
            power = power_rest(prime, (0, 1), HUGE, modulus)
            # x ** 200 is -1, and 10 ** 18 is an even multiple of 200.
            self.assertEqual(power, (1,))
            self.assertEqual(power_rest(prime, (0, 1), HUGE - 1, modulus), (0,) * 199 + (prime - 1,))

    def test_wrong(self):
        for prime in PRIMES:
            wrong = [(BadPrime, WRONG_PRIMES), (BadPolynomial, wrong_polynomials(prime)),
                     (BadNumber, wrong_integers(0, HUGE)), (BadPolynomial, wrong_polynomials(prime))]
            check_wrong(self, power_rest, (prime, (1, 1), 3, (0, 1)), wrong)

    def test_zero_divisor(self):
        for prime in PRIMES:
            wrong = [(BadPrime, WRONG_PRIMES), (BadPolynomial, wrong_polynomials(prime)),
                     (BadNumber, wrong_integers(0, HUGE)), (ZeroDivisor, [()])]
            check_wrong(self, power_rest, (prime, (1, 1), HUGE, (1, 1)), wrong)
            self.assertRaises(ZeroDivisor, power_rest, prime, (), 0, ())


class Bounds(unittest.TestCase):

    def test_most_numbers(self):
        for prime in PRIMES:
            for most in ((1,) * 201, (0,) * 200 + (prime - 1,)):
                self.assertEqual(poly_sum(prime, most, ()), most)
                self.assertEqual(poly_product(prime, (1,), most), most)
                self.assertEqual(divide(prime, most, (1,)), (most, ()))
                self.assertEqual(power_rest(prime, most, 1, most), ())
                self.assertEqual(divide(prime, most, combination(prime, most, most)[0])[1], ())


if __name__ == "__main__":
    unittest.main()
