"""Points 16 and 17: factors, orders and primitive polynomials."""

import random
import unittest

from taprows.errors import BadNumber, BadPolynomial, BadPrime, NotUnit, ZeroDivisor
from taprows.factors import cannot_split, factors, is_primitive, order, order_certificate, primitives, shows_order
from tests.support import (OTHER_KINDS, PRIMES, WRONG_PRIMES, all_polynomials, all_rows, check_wrong, error_of, most_of,
                           random_polynomial, slow_product, slow_rest, wrong_integers, wrong_polynomials)

MANY = 10 ** 12
SMALL = {2: 7, 3: 5, 5: 3, 7: 3}
# The greatest degrees whose power of the prime is at most 10 ** 12, and is 24 at most.
GREATEST = {2: 24, 3: 24, 5: 17, 7: 14}


def power(prime, a, exponent):
    product = (1,)
    for _ in range(exponent):
        product = slow_product(prime, product, a)
    return product


def product_of(prime, pairs):
    product = (1,)
    for factor, exponent in pairs:
        product = slow_product(prime, product, power(prime, factor, exponent))
    return product


def times(prime, a, number):
    return tuple(number * coefficient % prime for coefficient in a)


def splits(prime, a, most):
    """Whether some polynomial with a degree from 1 to most divides a, by trying all."""
    for degree in range(1, most + 1):
        for numbers in all_rows(prime, degree):
            if not slow_rest(prime, a, numbers + (1,)):
                return True
    return False


def slow_whole(prime, a):
    return len(a) > 1 and not splits(prime, a, (len(a) - 1) // 2)


def slow_order(prime, a):
    """The order, by the powers of x one after another."""
    one = slow_rest(prime, (1,), a)
    rest = slow_rest(prime, (0, 1), a)
    exponent = 1
    while rest != one:
        rest = slow_rest(prime, (0,) + rest, a)
        exponent += 1
    return exponent


def x_to(prime, exponent, a):
    """The rest of a power of x, by squaring."""
    rest = slow_rest(prime, (1,), a)
    for figure in bin(exponent)[2:]:
        rest = slow_rest(prime, slow_product(prime, rest, rest), a)
        if figure == "1":
            rest = slow_rest(prime, (0,) + rest, a)
    return rest


def slow_divisors(number):
    """The prime divisors of an integer that has none above 10 ** 6 twice."""
    found, divisor = [], 2
    while divisor * divisor <= number:
        while number % divisor == 0:
            found.append(divisor)
            number //= divisor
        divisor += 1
    return sorted(set(found + [number]) - {1})


def slow_certificate(prime, a):
    e = slow_order(prime, a)
    return e, tuple((q, x_to(prime, e // q, a)) for q in slow_divisors(e))


def moebius(number):
    divisors = slow_divisors(number)
    product = 1
    for q in divisors:
        product *= q
    return (-1) ** len(divisors) if product == number else 0


def many_whole(prime, degree):
    """How many polynomials with the leading number 1 of a degree cannot be split (C. Gauss)."""
    return sum(moebius(degree // d) * prime ** d for d in range(1, degree + 1) if degree % d == 0) // degree


def with_constant(polynomials):
    return [a for a in polynomials if a and a[0]]


class Factors(unittest.TestCase):

    def check(self, prime, a, most=3):
        told = factors(prime, a)
        self.assertIs(type(told), list)
        self.assertEqual(told, sorted(told))
        self.assertEqual(len({factor for factor, _ in told}), len(told))
        for pair in told:
            self.assertEqual((type(pair), len(pair)), (tuple, 2))
            factor, exponent = pair
            self.assertEqual((type(factor), type(exponent)), (tuple, int))
            self.assertTrue(exponent >= 1 and len(factor) > 1 and factor[-1] == 1)
            self.assertEqual({type(number) for number in factor}, {int})
            self.assertFalse(splits(prime, factor, min(most, (len(factor) - 1) // 2)), factor)
        self.assertEqual(times(prime, product_of(prime, told), a[-1]), a)
        self.assertIs(cannot_split(prime, a), len(told) == 1 and told[0][1] == 1)
        return told

    def test_small_polynomials(self):
        for prime in PRIMES:
            found = {}
            for a in all_polynomials(prime, SMALL[prime])[1:]:
                self.check(prime, a)
                whole = slow_whole(prime, a)
                self.assertIs(cannot_split(prime, a), whole)
                if whole and a[-1] == 1:
                    found[len(a) - 1] = found.get(len(a) - 1, 0) + 1
            self.assertEqual(found, {degree: many_whole(prime, degree) for degree in range(1, SMALL[prime])})

    def test_random_polynomials(self):
        rng = random.Random(1)
        for prime, most in ((2, 7), (3, 4), (5, 3), (7, 2)):
            for size in range(8, 26):
                self.check(prime, random_polynomial(rng, prime, size), most)

    def test_products_of_known_factors(self):
        rng = random.Random(2)
        for prime in PRIMES:
            whole = [a for a in all_polynomials(prime, 4 if prime < 5 else 3) if a and a[-1] == 1 and slow_whole(prime, a)]
            for _ in range(40):
                wanted, degree = {}, 0
                while True:
                    factor, exponent = rng.choice(whole), rng.choice([1, 1, 2, prime, prime + 1, 2 * prime])
                    degree += (len(factor) - 1) * exponent
                    if degree > 24:
                        break
                    wanted[factor] = wanted.get(factor, 0) + exponent
                a = times(prime, product_of(prime, wanted.items()), rng.randrange(1, prime))
                self.assertEqual(factors(prime, a), sorted(wanted.items()))
                self.assertIs(cannot_split(prime, a), list(wanted.values()) == [1])

    def test_powers(self):
        for prime in PRIMES:
            for exponent in range(1, 25):
                self.assertEqual(factors(prime, (0,) * exponent + (prime - 1,)), [((0, 1), exponent)])
                a = power(prime, (1, 1), exponent)
                self.assertEqual(factors(prime, a), [((1, 1), exponent)])
                self.assertIs(cannot_split(prime, a), exponent == 1)

    def test_all_factors_of_one_degree(self):
        # x ** (prime ** d) - x is the product of all that cannot be split, whose degrees divide d.
        for prime, d in ((2, 3), (2, 4), (3, 2), (5, 1), (7, 1)):
            a = (0, prime - 1) + (0,) * (prime ** d - 2) + (1,)
            wanted = [b for b in all_polynomials(prime, d + 1) if b and b[-1] == 1 and slow_whole(prime, b)]
            wanted = [b for b in wanted if d % (len(b) - 1) == 0]
            self.assertEqual(factors(prime, a), sorted((b, 1) for b in wanted))

    def test_degree_24_that_cannot_be_split(self):
        a = tuple(1 if at in (0, 1, 2, 7, 24) else 0 for at in range(25))
        self.assertEqual((factors(2, a), cannot_split(2, a)), ([(a, 1)], True))
        # x ** 23 - 1 modulo 2 is x - 1 and the two polynomials of the Golay code.
        a = (1,) + (0,) * 22 + (1,)
        told = [(1, 0, 1, 0, 1, 1, 1, 0, 0, 0, 1, 1), (1, 1), (1, 1, 0, 0, 0, 1, 1, 1, 0, 1, 0, 1)]
        self.assertEqual(factors(2, a), [(factor, 1) for factor in told])
        self.assertEqual(factors(2, slow_product(2, a, (1, 1))), [(told[0], 1), ((1, 1), 2), (told[2], 1)])

    def test_constants(self):
        for prime in PRIMES:
            for number in range(1, prime):
                self.assertEqual(factors(prime, (number,)), [])
                self.assertIs(cannot_split(prime, (number,)), False)
                for other in range(prime):
                    turn = next(k for k in range(1, prime) if k * number % prime == 1)
                    self.assertEqual(factors(prime, (other, number)), [((other * turn % prime, 1), 1)])
                    self.assertIs(cannot_split(prime, (other, number)), True)

    def test_too_many(self):
        for prime in PRIMES:
            for function in (factors, cannot_split):
                for size in (26, 27, 60, 201):
                    for a in ((1,) * size, (0,) * (size - 1) + (1,)):
                        self.assertEqual(most_of(self, function, prime, a), 24)
                self.assertIsNone(error_of(function, (prime, (0,) * 24 + (1,))))
                self.assertIs(error_of(function, (prime, (1,) * 201 + (0,))), BadPolynomial)
                self.assertIs(error_of(function, (4, (1,) * 26)), BadPrime)

    def test_wrong(self):
        for function in (factors, cannot_split):
            for prime in PRIMES:
                wrong = [(BadPrime, WRONG_PRIMES), (BadPolynomial, wrong_polynomials(prime))]
                check_wrong(self, function, (prime, (1, 1)), wrong)
                self.assertRaises(ZeroDivisor, function, prime, ())
                self.assertRaises(BadPrime, function, 4, ())

    def test_new_lists(self):
        found = factors(2, (1, 1))
        found.append(None)
        self.assertEqual(factors(2, (1, 1)), [((1, 1), 1)])


class Orders(unittest.TestCase):

    def small(self):
        rng = random.Random(3)
        for prime in PRIMES:
            yield from ((prime, a) for a in with_constant(all_polynomials(prime, SMALL[prime])))
            for size in range(SMALL[prime] + 1, {2: 13, 3: 8, 5: 6, 7: 5}[prime]):
                yield from ((prime, a) for a in with_constant([random_polynomial(rng, prime, size) for _ in range(6)]))
            for factor, exponent in (((1, 1), 24 if prime < 5 else 13), ((1, 0, 1), 6), ((1, 1, 1), 6), ((2 % prime, 1), 3)):
                if factor[0]:
                    yield prime, power(prime, factor, exponent)

    def test_orders(self):
        for prime, a in self.small():
            certificate = slow_certificate(prime, a)
            self.assertEqual(order(prime, a), certificate[0])
            told = order_certificate(prime, a)
            self.assertEqual(told, certificate)
            self.assertEqual((type(told), type(told[1])), (tuple, tuple))
            self.assertIs(shows_order(prime, a, told), True)

    def test_constants(self):
        for prime in PRIMES:
            for number in range(1, prime):
                self.assertEqual(order(prime, (number,)), 1)
                self.assertEqual(order_certificate(prime, (number,)), (1, ()))
                self.assertIs(shows_order(prime, (number,), (1, ())), True)
                self.assertIs(shows_order(prime, (number,), (2, ((2, ()),))), False)
                self.assertIs(shows_order(prime, (number,), (2, ())), False)
                self.assertIs(shows_order(prime, (number,), (0, ())), False)

    def test_greatest_degrees(self):
        rng = random.Random(4)
        for prime in PRIMES:
            degree = GREATEST[prime]
            for _ in range(4):
                a = (rng.randrange(1, prime),) + random_polynomial(rng, prime, degree)
                e, rows = order_certificate(prime, a)
                self.assertEqual(order(prime, a), e)
                self.assertEqual([q for q, _ in rows], slow_divisors(e))
                self.assertEqual(x_to(prime, e, a), (1,))
                for q, rest in rows:
                    self.assertEqual(rest, x_to(prime, e // q, a))
                    self.assertNotEqual(rest, (1,))
                self.assertIs(shows_order(prime, a, (e, rows)), True)
            a = (1,) + (0,) * (degree - 1) + (prime - 1,)
            self.assertEqual(order(prime, a), degree)
            self.assertEqual(order(prime, (1,) + (0,) * (degree - 1) + (1,)), degree if prime == 2 else 2 * degree)

    def test_too_many(self):
        for prime in PRIMES:
            for size in (GREATEST[prime] + 2, GREATEST[prime] + 3, 26, 201):
                for function in (order, order_certificate, is_primitive):
                    self.assertEqual(most_of(self, function, prime, (1,) * size), MANY)
                for value in (None, (1, ()), 5):
                    self.assertEqual(most_of(self, shows_order, prime, (1,) * size, value), MANY)
            self.assertIsNone(error_of(order, (prime, (1,) * (GREATEST[prime] + 1))))
            self.assertIs(error_of(order, (8, (1,) * 200)), BadPrime)
            self.assertIs(error_of(order, (prime, (0,) + (1,) * 200)), NotUnit)
            self.assertIs(error_of(order, (prime, (1,) * 200 + (0,))), BadPolynomial)

    def test_not_unit(self):
        for prime in PRIMES:
            for a in ((), (0, 1), (0, 0, prime - 1), (0, 1, 1), (0,) * 24 + (1,), (0,) * 200 + (1,)):
                for function in (order, order_certificate):
                    self.assertRaises(NotUnit, function, prime, a)
                for value in (None, (1, ())):
                    self.assertRaises(NotUnit, shows_order, prime, a, value)

    def test_wrong(self):
        for prime in PRIMES:
            wrong = [(BadPrime, WRONG_PRIMES), (BadPolynomial, wrong_polynomials(prime))]
            for function in (order, order_certificate, is_primitive):
                check_wrong(self, function, (prime, (1, 1)), wrong)
            check_wrong(self, shows_order, (prime, (1, 1), None), wrong + [None])


class Certificates(unittest.TestCase):

    def test_altered(self):
        for prime, a in ((2, (1, 0, 0, 1, 1)), (2, (1, 0, 1, 0, 1)), (3, (2, 1, 0, 0, 1)), (5, (2, 1, 1)), (7, (3, 1, 1))):
            e, rows = slow_certificate(prime, a)
            self.assertTrue(len(rows) >= 2)
            self.assertIs(shows_order(prime, a, (e, rows)), True)
            for at, (q, rest) in enumerate(rows):
                for row in ((q, ()), (q, (1,)), (q, rest + (0,)), (q, rest + (1,)), (q, list(rest)), (q, None), (q,), q,
                            (q, rest, 1), [q, rest], (q + 1, rest), (str(q), rest), (-q, rest), (None, rest),
                            (q, tuple(number + prime for number in rest)), {q: rest}):
                    self.assertIs(shows_order(prime, a, (e, rows[:at] + (row,) + rows[at + 1:])), row == (q, rest), row)
                self.assertIs(shows_order(prime, a, (e, rows[:at] + rows[at + 1:])), False)
            for value in ((e, rows[::-1]), (e, rows + rows[-1:]), (e, ((1, (1,)),) + rows), (e, list(rows)), [e, rows], (e,),
                          (e, rows, 1), (str(e), rows), (e, None), (e, dict(rows)), (-e, rows), rows, e, (), (e, ()),
                          (e, rows + ((97, x_to(prime, e, a)),))):
                self.assertIs(shows_order(prime, a, value), False, value)
            for other in (2 * e, 3 * e, e - 1, e + 1, e // 2, 1, 0, 10 ** 30 * e, (10 ** 30 // e) * e, 10 ** 30, 10 ** 30 + 1):
                self.assertIs(shows_order(prime, a, (other, rows)), False)

    def test_multiples_of_the_order(self):
        # x ** e has the rest of 1, but so has a rest in rows.
        for prime, a in ((2, (1, 1, 1)), (3, (1, 0, 1)), (5, (2, 1)), (7, (3, 1))):
            e = slow_order(prime, a)
            for many in (2, 3, 5, 7, 6, 2 ** 60, 10 ** 30 // e):
                if many < 10 ** 20:
                    rows = tuple((q, x_to(prime, e * many // q, a)) for q in slow_divisors(e * many))
                    self.assertIs(shows_order(prime, a, (e * many, rows)), False)
            e = 10 ** 30 if (10 ** 30) % e == 0 else 10 ** 30 - (10 ** 30) % e
            self.assertIs(shows_order(prime, a, (e, ((2, (1,)), (5, (1,))))), False)

    def test_no_pairs(self):
        for value in OTHER_KINDS + [0, 1, (True, ()), (1, []), (1, False), (1, ""), (1, {}), [1, ()], (1, (), ()), ((1, ()),),
                                    (1, None), ("1", ()), (1, ((),)), (0, ()), (2, ()), (-1, ())]:
            self.assertIs(shows_order(2, (1, 1), value), False, value)
        self.assertIs(shows_order(2, (1, 1), (1, ())), True)
        self.assertIs(shows_order(3, (1, 1), (2, ((2, (2,)),))), True)
        self.assertIs(shows_order(3, (2, 0, 1), (2, ((2, (0, 1)),))), True)
        self.assertIs(shows_order(3, (2, 0, 1), (2, ((2, (0, True)),))), False)
        self.assertIs(shows_order(3, (2, 0, 1), (2, ((2, (False, 1)),))), False)


class Primitive(unittest.TestCase):

    def test_small_polynomials(self):
        for prime in PRIMES:
            found = {}
            for a in all_polynomials(prime, SMALL[prime]):
                degree = len(a) - 1
                wanted = degree >= 1 and a[0] != 0 and slow_whole(prime, a) and slow_order(prime, a) == prime ** degree - 1
                self.assertIs(is_primitive(prime, a), wanted, a)
                if wanted and a[-1] == 1:
                    found.setdefault(degree, []).append(a)
            for degree in range(1, SMALL[prime]):
                self.assertEqual(primitives(prime, degree), sorted(found[degree]))

    def test_counts(self):
        # There are as many as integers below prime ** degree without a common divisor with it, through the degree.
        for prime, most in ((2, 10), (3, 6), (5, 4), (7, 3)):
            for degree in range(1, most + 1):
                told = primitives(prime, degree)
                self.assertIs(type(told), list)
                number = wanted = prime ** degree - 1
                for q in slow_divisors(number):
                    wanted = wanted // q * (q - 1)
                self.assertEqual(len(told), wanted // degree)
                self.assertEqual(told, sorted(set(told)))
                for a in told[:: len(told) // 3 + 1]:
                    self.assertEqual((len(a) - 1, a[-1], slow_order(prime, a)), (degree, 1, number))

    def test_greatest_degrees(self):
        a = tuple(1 if at in (0, 1, 2, 7, 24) else 0 for at in range(25))
        self.assertIs(is_primitive(2, a), True)
        self.assertIs(is_primitive(2, a[::-1]), True)
        self.assertIs(is_primitive(2, (1,) * 25), False)
        for prime, numbers in ((3, (2, 1, 0, 2, 2)), (5, (2, 0, 0, 1, 2)), (7, (3, 0, 0, 2, 4))):
            many = prime ** GREATEST[prime] - 1
            a = numbers + (0,) * (GREATEST[prime] - 5) + (1,)
            for b in (a, times(prime, a, 2), (1,) + a[1:], numbers[:4] + (1,) + a[5:]):
                wanted = x_to(prime, many, b) == (1,)
                wanted = wanted and all(x_to(prime, many // q, b) != (1,) for q in slow_divisors(many))
                self.assertIs(is_primitive(prime, b), wanted)
            self.assertIs(is_primitive(prime, a), True)

    def test_no_such_polynomials(self):
        for prime in PRIMES:
            for a in [(number,) for number in range(1, prime)] + [(), (0, 1), (0, 1, 1), (0,) * 30 + (1,), (0,) * 200 + (1,)]:
                self.assertIs(is_primitive(prime, a), False)
            self.assertEqual(most_of(self, is_primitive, prime, (1,) + (0,) * 24 + (1,)), MANY)

    def test_too_many_primitives(self):
        for prime, least in ((2, 11), (3, 7), (5, 5), (7, 4)):
            for size in range(least, 25):
                self.assertEqual(most_of(self, primitives, prime, size), 2000)
            for size in range(1, least):
                self.assertIsNone(error_of(primitives, (prime, size)))

    def test_wrong_primitives(self):
        for prime in PRIMES:
            check_wrong(self, primitives, (prime, 2), [(BadPrime, WRONG_PRIMES), (BadNumber, wrong_integers(1, 24))])
        found = primitives(2, 3)
        found.append(None)
        self.assertEqual(primitives(2, 3), [(1, 0, 1, 1), (1, 1, 0, 1)])


if __name__ == "__main__":
    unittest.main()
