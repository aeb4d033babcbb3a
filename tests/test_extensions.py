"""Point 42: fields of a prime's power."""

import random
import unittest

from taprows.errors import BadElement, BadField, BadNumber, BadPrime, ZeroDivisor
from taprows.extensions import (element_inverse, element_order, element_power, element_product, generator, logarithm,
                                minimal_polynomial, norm, trace)
from taprows.factors import cannot_split
from tests.support import (PRIMES, SOME_FIELDS, WRONG_PRIMES, all_rows, check_wrong, error_of, field_elements, field_power,
                           field_product, images, slow_sum, slow_trace, slow_whole, wrong_elements,
                           wrong_fields, wrong_integers)

MOST = 10 ** 18
GREATEST = {2: 12, 3: 7, 5: 5, 7: 4}
ONE = (1,)


def small_fields(prime, most):
    """All field polynomials with at most so many elements."""
    found = []
    degree = 1
    while prime ** degree <= most:
        found += slow_whole(prime, degree)
        degree += 1
    return found


def random_elements(rng, prime, low, many):
    size = prime ** (len(low) - 1)
    found = [(), ONE, (prime - 1,)]
    while len(found) < many:
        number = rng.randrange(size)
        element = []
        while number:
            number, figure = divmod(number, prime)
            element.append(figure)
        found.append(tuple(element))
    return found


def walk(prime, low, base):
    """The powers of an element with the exponents 0, 1, .., up to the first that stands there already."""
    powers = [ONE]
    while True:
        power = field_product(prime, low, powers[-1], base)
        if power in powers:
            return powers
        powers.append(power)


def value_at(prime, low, polynomial, a):
    """What a polynomial is with an element in the place of x."""
    total = ()
    for number in reversed(polynomial):
        total = slow_sum(prime, field_product(prime, low, total, a), (number,) if number else ())
    return total


class Case(unittest.TestCase):

    def check_element(self, prime, low, told, wanted):
        self.assertEqual((type(told), told), (tuple, wanted))
        self.assertTrue(all(type(number) is int for number in told))


class FieldPolynomials(Case):

    def test_small_ones(self):
        for prime in PRIMES:
            for degree in range(1, {2: 7, 3: 4, 5: 3, 7: 2}[prime] + 1):
                wanted = slow_whole(prime, degree)
                for head in all_rows(prime, degree):
                    for last in range(prime):
                        low = head + (last,)
                        error = None if low in wanted else BadField
                        self.assertIs(error_of(trace, (prime, low, ())), error)

    def test_greatest_degrees(self):
        rng = random.Random(1)
        for prime in PRIMES:
            for degree in (GREATEST[prime], GREATEST[prime] + 1):
                found = 0
                while found < 3:
                    low = tuple(rng.randrange(prime) for _ in range(degree)) + (1,)
                    if not cannot_split(prime, low):
                        self.assertRaises(BadField, generator, prime, low)
                        continue
                    found += 1
                    fits = degree == GREATEST[prime]
                    for function, more in ((generator, ()), (trace, (ONE,)), (element_product, (ONE, ONE))):
                        self.assertIs(error_of(function, (prime, low, *more)), None if fits else BadField)

    def test_wrong(self):
        for prime in PRIMES:
            for low in wrong_fields(prime):
                self.assertIs(error_of(generator, (prime, low)), BadField, low)
            check_wrong(self, generator, (prime, SOME_FIELDS[prime][2]), [(BadPrime, WRONG_PRIMES), (BadField, wrong_fields(prime))])

    def test_wrong_elements(self):
        for prime in PRIMES:
            fields = wrong_fields(prime)
            for low in SOME_FIELDS[prime]:
                for function in (trace, norm, minimal_polynomial, element_inverse, element_order):
                    for value in wrong_elements(prime, low):
                        self.assertIs(error_of(function, (prime, low, value)), BadElement)
            low = SOME_FIELDS[prime][2]
            wrong = [(BadPrime, WRONG_PRIMES), (BadField, fields), (BadElement, wrong_elements(prime, low))]
            for function in (trace, norm, minimal_polynomial, element_inverse, element_order):
                check_wrong(self, function, (prime, low, ONE), wrong)
            wrong[1] = (BadField, fields[::4])
            for function in (element_product, logarithm):
                check_wrong(self, function, (prime, low, ONE, ()), wrong + wrong[-1:])
            wrong.append((BadNumber, wrong_integers(-MOST, MOST)))
            check_wrong(self, element_power, (prime, low, ONE, -5), wrong)


class Products(Case):

    def test_small_fields(self):
        for prime in PRIMES:
            for low in small_fields(prime, 16):
                elements = field_elements(prime, low)
                for a in elements:
                    for b in elements:
                        self.check_element(prime, low, element_product(prime, low, a, b), field_product(prime, low, a, b))

    def test_larger_fields(self):
        rng = random.Random(2)
        for prime in PRIMES:
            for low in SOME_FIELDS[prime]:
                found = random_elements(rng, prime, low, 12)
                for a in found:
                    for b in found:
                        self.check_element(prime, low, element_product(prime, low, a, b), field_product(prime, low, a, b))

    def test_inverses(self):
        rng = random.Random(3)
        for prime in PRIMES:
            for low in small_fields(prime, 49):
                elements = field_elements(prime, low)
                for a in elements[1:]:
                    told = element_inverse(prime, low, a)
                    self.assertIn(told, elements)
                    self.assertEqual(field_product(prime, low, a, told), ONE)
            for low in SOME_FIELDS[prime]:
                for a in random_elements(rng, prime, low, 12):
                    if a:
                        told = element_inverse(prime, low, a)
                        self.check_element(prime, low, told, element_power(prime, low, a, -1))
                        self.assertEqual(field_product(prime, low, a, told), ONE)
                self.assertRaises(ZeroDivisor, element_inverse, prime, low, ())


class Powers(Case):

    def test_small_exponents(self):
        rng = random.Random(4)
        for prime in PRIMES:
            for low in small_fields(prime, 16) + SOME_FIELDS[prime]:
                for a in random_elements(rng, prime, low, 7):
                    power = ONE
                    for exponent in range(20):
                        self.check_element(prime, low, element_power(prime, low, a, exponent), power)
                        power = field_product(prime, low, power, a)

    def test_exponents_below_zero(self):
        rng = random.Random(5)
        for prime in PRIMES:
            for low in small_fields(prime, 16) + SOME_FIELDS[prime]:
                for a in random_elements(rng, prime, low, 7):
                    for exponent in (1, 2, 3, 7, 100):
                        if not a:
                            self.assertRaises(ZeroDivisor, element_power, prime, low, a, -exponent)
                            continue
                        told = element_power(prime, low, a, -exponent)
                        self.assertEqual(field_product(prime, low, told, field_power(prime, low, a, exponent)), ONE)

    def test_large_exponents(self):
        rng = random.Random(6)
        for prime in PRIMES:
            for low in small_fields(prime, 32):
                for a in random_elements(rng, prime, low, 8)[1:]:
                    if not a:
                        continue
                    powers = walk(prime, low, a)
                    for exponent in (MOST, MOST - 1, -MOST, 1 - MOST, rng.randrange(MOST), -rng.randrange(MOST)):
                        self.assertEqual(element_power(prime, low, a, exponent), powers[exponent % len(powers)])

    def test_zero(self):
        for prime in PRIMES:
            for low in SOME_FIELDS[prime]:
                self.assertEqual(element_power(prime, low, (), 0), ONE)
                for exponent in (1, 2, prime, MOST):
                    self.assertEqual(element_power(prime, low, (), exponent), ())
                for exponent in (-1, -2, -prime, -MOST):
                    self.assertRaises(ZeroDivisor, element_power, prime, low, (), exponent)
                # An exponent beyond the bounds is an error of its own.
                for exponent in (MOST + 1, -MOST - 1, None, True):
                    self.assertRaises(BadNumber, element_power, prime, low, (), exponent)


class Orders(Case):

    def test_small_fields(self):
        for prime in PRIMES:
            for low in small_fields(prime, 64):
                for a in field_elements(prime, low)[1:]:
                    told = element_order(prime, low, a)
                    self.assertEqual((type(told), told), (int, len(walk(prime, low, a))))

    def test_greatest_fields(self):
        rng = random.Random(7)
        for prime in PRIMES:
            low = SOME_FIELDS[prime][-1]
            most = prime ** (len(low) - 1) - 1
            for a in random_elements(rng, prime, low, 10)[1:]:
                if not a:
                    continue
                told = element_order(prime, low, a)
                self.assertEqual(most % told, 0)
                self.assertEqual(element_power(prime, low, a, told), ONE)
                for less in range(1, told):
                    if told % less == 0:
                        self.assertNotEqual(element_power(prime, low, a, less), ONE)

    def test_edges(self):
        for prime in PRIMES:
            for low in SOME_FIELDS[prime]:
                self.assertEqual(element_order(prime, low, ONE), 1)
                self.assertEqual(element_order(prime, low, (prime - 1,)), 1 if prime == 2 else 2)
                self.assertRaises(ZeroDivisor, element_order, prime, low, ())

    def test_generators(self):
        for prime in PRIMES:
            for low in small_fields(prime, 64):
                elements = field_elements(prime, low)
                wanted = next(a for a in elements[1:] if len(walk(prime, low, a)) == len(elements) - 1)
                self.check_element(prime, low, generator(prime, low), wanted)
            for low in SOME_FIELDS[prime]:
                told = generator(prime, low)
                most = prime ** (len(low) - 1) - 1
                elements = field_elements(prime, low)
                self.assertEqual(element_order(prime, low, told), most)
                # None of those ahead of it will do.
                self.assertTrue(all(element_order(prime, low, a) < most for a in elements[1:elements.index(told)]))
        self.assertEqual([generator(2, low) for low in ((0, 1), (1, 1))], [ONE, ONE])


class Traces(Case):

    def test_small_fields(self):
        for prime in PRIMES:
            for low in small_fields(prime, 64):
                counts = [0] * prime
                for a in field_elements(prime, low):
                    told = trace(prime, low, a)
                    self.assertEqual((type(told), told), (int, slow_trace(prime, low, a)))
                    counts[told] += 1
                    self.check_norm(prime, low, a)
                self.assertEqual(counts, [prime ** (len(low) - 2)] * prime)

    def check_norm(self, prime, low, a):
        product = ONE
        for image in images(prime, low, a):
            product = field_product(prime, low, product, image)
        self.assertLessEqual(len(product), 1)
        told = norm(prime, low, a)
        self.assertEqual((type(told), told), (int, product[0] if product else 0))

    def test_larger_fields(self):
        rng = random.Random(8)
        for prime in PRIMES:
            for low in SOME_FIELDS[prime]:
                for a in random_elements(rng, prime, low, 15):
                    self.assertEqual(trace(prime, low, a), slow_trace(prime, low, a))
                    self.check_norm(prime, low, a)

    def test_numbers(self):
        for prime in PRIMES:
            for low in SOME_FIELDS[prime]:
                degree = len(low) - 1
                for number in range(prime):
                    a = (number,) if number else ()
                    self.assertEqual(trace(prime, low, a), degree * number % prime)
                    self.assertEqual(norm(prime, low, a), number ** degree % prime)


class MinimalPolynomials(Case):

    def test_small_fields_by_trying_all(self):
        for prime in PRIMES:
            for low in small_fields(prime, {2: 32, 3: 27, 5: 25, 7: 49}[prime]):
                degree = len(low) - 1
                tried = [head + (1,) for size in range(1, degree + 1) for head in all_rows(prime, size)]
                for a in field_elements(prime, low):
                    wanted = next(tried_one for tried_one in tried if value_at(prime, low, tried_one, a) == ())
                    self.check_element(prime, low, minimal_polynomial(prime, low, a), wanted)

    def test_larger_fields(self):
        rng = random.Random(9)
        for prime in PRIMES:
            for low in SOME_FIELDS[prime]:
                for a in random_elements(rng, prime, low, 12):
                    told = minimal_polynomial(prime, low, a)
                    self.assertEqual(told[-1], 1)
                    self.assertEqual(value_at(prime, low, told, a), ())
                    # It is that of all images; there are as many of them as its degree tells.
                    others = images(prime, low, a)
                    self.assertEqual(len(set(others)), len(told) - 1)
                    self.assertEqual(minimal_polynomial(prime, low, others[-1]), told)
                    self.assertTrue(cannot_split(prime, told))

    def test_edges(self):
        for prime in PRIMES:
            for low in SOME_FIELDS[prime]:
                self.assertEqual(minimal_polynomial(prime, low, ()), (0, 1))
                self.assertEqual(minimal_polynomial(prime, low, ONE), (prime - 1, 1))
                if len(low) > 2:
                    self.assertEqual(minimal_polynomial(prime, low, (0, 1)), low)
                else:
                    number = -low[0] % prime
                    self.assertEqual(minimal_polynomial(prime, low, (number,) if number else ()), low)

    def test_elements_of_lesser_fields(self):
        # In a field of 64 elements: those of the fields of 4 and of 8 elements.
        low = slow_whole(2, 6)[0]
        degrees = [len(minimal_polynomial(2, low, a)) - 1 for a in field_elements(2, low)]
        self.assertEqual([degrees.count(degree) for degree in range(1, 7)], [2, 2, 6, 0, 0, 54])


class Logarithms(Case):

    def test_small_fields(self):
        for prime in PRIMES:
            for low in small_fields(prime, 32):
                elements = field_elements(prime, low)
                for base in elements:
                    powers = walk(prime, low, base)
                    for a in elements:
                        told = logarithm(prime, low, base, a)
                        if a in powers:
                            self.assertEqual((type(told), told), (int, powers.index(a)))
                        else:
                            self.assertIsNone(told)

    def test_greatest_fields(self):
        rng = random.Random(10)
        for prime in PRIMES:
            low = SOME_FIELDS[prime][-1]
            base = generator(prime, low)
            most = prime ** (len(low) - 1) - 1
            for exponent in (0, 1, 2, most - 1, most - 2, rng.randrange(most), rng.randrange(most)):
                a = element_power(prime, low, base, exponent)
                self.assertEqual(logarithm(prime, low, base, a), exponent)
            self.assertIsNone(logarithm(prime, low, base, ()))
            self.assertIsNone(logarithm(prime, low, ONE, base))

    def test_zero(self):
        for prime in PRIMES:
            for low in SOME_FIELDS[prime]:
                self.assertEqual(logarithm(prime, low, (), ()), 1)
                self.assertEqual(logarithm(prime, low, (), ONE), 0)
                if len(low) > 2 or prime > 2:
                    other = (0, 1) if len(low) > 2 else (2,)
                    self.assertIsNone(logarithm(prime, low, (), other))
                    self.assertIsNone(logarithm(prime, low, ONE, other))
                self.assertEqual(logarithm(prime, low, ONE, ONE), 0)
                self.assertIsNone(logarithm(prime, low, ONE, ()))


class Sums(Case):

    def test_products_of_products(self):
        rng = random.Random(11)
        for prime in PRIMES:
            for low in SOME_FIELDS[prime]:
                a, b, c = random_elements(rng, prime, low, 9)[-3:]
                left = element_product(prime, low, a, slow_sum(prime, b, c))
                right = slow_sum(prime, element_product(prime, low, a, b), element_product(prime, low, a, c))
                self.assertEqual(left, right)
                self.assertEqual(trace(prime, low, slow_sum(prime, a, b)), (
                    trace(prime, low, a) + trace(prime, low, b)) % prime)
                self.assertEqual(norm(prime, low, element_product(prime, low, a, b)), (
                    norm(prime, low, a) * norm(prime, low, b)) % prime)


if __name__ == "__main__":
    unittest.main()
