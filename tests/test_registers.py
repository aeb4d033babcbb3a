"""Points 3 and 4: rows, breaks, states and fractions of registers."""

import random
import unittest

from taprows.errors import BadNumber, BadPolynomial, BadPrime, BadRow, BadStart, BadTaps, ZeroDivisor
from taprows.registers import expansion, first_break, fraction, run, state_after
from tests.support import (PRIMES, WRONG_PRIMES, all_rows, check_wrong, cut, random_polynomial, random_row, slow_product,
                           slow_run, wrong_integers, wrong_polynomials, wrong_rows, wrong_starts, wrong_taps)

HUGE = 10 ** 18
SMALL = {2: 3, 3: 2, 5: 1, 7: 1}


def registers(seed):
    """Registers modulo each prime: all small ones, and some of many sizes."""
    rng = random.Random(seed)
    for prime in PRIMES:
        for size in range(SMALL[prime] + 1):
            yield from ((prime, taps, start) for taps in all_rows(prime, size) for start in all_rows(prime, size))
        for size in list(range(1, 12)) * 3 + [59, 60, 60]:
            yield prime, random_row(rng, prime, size), random_row(rng, prime, size)


class Runs(unittest.TestCase):

    def test_run(self):
        for prime, taps, start in registers(1):
            for count in (0, 1, len(taps), len(taps) + 1, 70, 400):
                self.assertEqual(run(prime, taps, start, count), slow_run(prime, taps, start, count))

    def test_first_tap_is_for_the_nearest_number(self):
        self.assertEqual(run(5, (1, 2, 3), (1, 0, 0), 6), (1, 0, 0, 3, 3, 4))

    def test_no_taps(self):
        for prime in PRIMES:
            self.assertEqual(run(prime, (), (), 400), (0,) * 400)
            self.assertEqual(run(prime, (), (), 0), ())

    def test_fewer_numbers_than_the_start(self):
        start = (1, 0) * 30
        for prime in PRIMES:
            for count in (0, 1, 59, 60):
                self.assertEqual(run(prime, (1,) * 60, start, count), start[:count])

    def test_wrong(self):
        for prime in PRIMES:
            for taps in ((), (1,), (0, 1)):
                wrong = [(BadPrime, WRONG_PRIMES), (BadTaps, wrong_taps(prime)), (BadStart, wrong_starts(prime, taps)),
                         (BadNumber, wrong_integers(0, 400))]
                check_wrong(self, run, (prime, taps, (0,) * len(taps), 3), wrong)


class Breaks(unittest.TestCase):

    def test_rows_without_break(self):
        for prime, taps, start in registers(2):
            row = slow_run(prime, taps, start, 100)
            for count in (0, 1, len(taps), len(taps) + 1, 100):
                self.assertIsNone(first_break(prime, taps, row[:count]))

    def test_rows_with_breaks(self):
        rng = random.Random(3)
        for prime, taps, start in registers(3):
            for at in {len(taps), len(taps) + 1, 99}:
                row = list(slow_run(prime, taps, start, 100))
                row[at] = (row[at] + rng.randrange(1, prime)) % prime
                # What comes behind the first break does not count.
                row[at + 1:] = random_row(rng, prime, 99 - at)
                self.assertEqual(first_break(prime, taps, tuple(row)), at)

    def test_rows_shorter_than_the_taps(self):
        for prime in PRIMES:
            for size in (0, 1, 59, 60):
                self.assertIsNone(first_break(prime, (0,) * 60, (1,) * size))
            self.assertEqual(first_break(prime, (0,) * 60, (1,) * 61), 60)

    def test_no_taps(self):
        for prime in PRIMES:
            self.assertIsNone(first_break(prime, (), ()))
            self.assertIsNone(first_break(prime, (), (0,) * 400))
            self.assertEqual(first_break(prime, (), (0,) * 399 + (1,)), 399)
            self.assertEqual(first_break(prime, (), (1,)), 0)

    def test_wrong(self):
        for prime in PRIMES:
            wrong = [(BadPrime, WRONG_PRIMES), (BadTaps, wrong_taps(prime)), (BadRow, wrong_rows(prime))]
            check_wrong(self, first_break, (prime, (1,), (0, 1)), wrong)
            check_wrong(self, first_break, (prime, (1,) * 60, (0,) * 400), wrong)


class States(unittest.TestCase):

    def test_few_steps(self):
        for prime, taps, start in registers(4):
            row = slow_run(prime, taps, start, 200)
            for steps in (0, 1, 2, 3, 10, 61, 100, 139):
                told = state_after(prime, taps, start, steps)
                self.assertEqual(told, row[steps:steps + len(taps)])
                self.assertIs(type(told), tuple)

    def test_steps_add_up(self):
        rng = random.Random(5)
        for prime, taps, start in registers(5):
            one = rng.randrange(HUGE // 2)
            other = HUGE - one
            self.assertEqual(state_after(prime, taps, state_after(prime, taps, start, one), other),
                             state_after(prime, taps, start, HUGE))

    def test_many_steps_repeat(self):
        for prime, taps, start in ((2, (0, 1, 1), (1, 0, 0)), (3, (1, 1), (0, 1)), (5, (1, 3), (2, 2)),
                                   (7, (1, 1), (0, 1)), (7, (3,), (1,)), (2, (1, 0), (0, 1))):
            states = []
            state = start
            while state not in states:
                states.append(state)
                state = slow_run(prime, taps, state, len(taps) + 1)[1:]
            ahead = states.index(state)
            period = len(states) - ahead
            for steps in range(HUGE - 50, HUGE + 1):
                self.assertEqual(state_after(prime, taps, start, steps), states[ahead + (steps - ahead) % period])

    def test_no_taps(self):
        for prime in PRIMES:
            for steps in (0, 1, HUGE):
                self.assertEqual(state_after(prime, (), (), steps), ())

    def test_sixty_taps(self):
        for prime in PRIMES:
            start = tuple(at % prime for at in range(60))
            # The row repeats after 60 numbers, and 10 ** 18 is 40 behind a multiple of 60.
            self.assertEqual(state_after(prime, (0,) * 59 + (1,), start, HUGE), start[40:] + start[:40])
            self.assertEqual(state_after(prime, (0,) * 60, start, HUGE), (0,) * 60)

    def test_wrong(self):
        for prime in PRIMES:
            for taps in ((), (1,), (0, 1)):
                wrong = [(BadPrime, WRONG_PRIMES), (BadTaps, wrong_taps(prime)), (BadStart, wrong_starts(prime, taps)),
                         (BadNumber, wrong_integers(0, HUGE))]
                check_wrong(self, state_after, (prime, taps, (0,) * len(taps), 3), wrong)


class Fractions(unittest.TestCase):

    def test_fractions(self):
        for prime, taps, start in registers(6):
            told = fraction(prime, taps, start)
            self.assertIs(type(told), tuple)
            above, low = told
            self.assertEqual(low, cut([1] + [-tap % prime for tap in taps]))
            self.assertEqual(above, cut(above))
            self.assertTrue(len(above) <= len(taps))
            series = slow_run(prime, taps, start, 150)
            product = slow_product(prime, series, low)
            self.assertEqual(cut(product[:150]), above)

    def test_last_taps_zero(self):
        self.assertEqual(fraction(3, (0, 0), (1, 2)), ((1, 2), (1,)))
        self.assertEqual(fraction(3, (1, 0), (1, 0)), ((1, 2), (1, 2)))

    def test_no_taps(self):
        for prime in PRIMES:
            self.assertEqual(fraction(prime, (), ()), ((), (1,)))

    def test_wrong(self):
        for prime in PRIMES:
            for taps in ((), (1,), (0, 1)):
                wrong = [(BadPrime, WRONG_PRIMES), (BadTaps, wrong_taps(prime)), (BadStart, wrong_starts(prime, taps))]
                check_wrong(self, fraction, (prime, taps, (0,) * len(taps)), wrong)


class Expansions(unittest.TestCase):

    def test_expansions(self):
        rng = random.Random(7)
        for prime in PRIMES:
            for size in list(range(15)) * 3 + [200, 201]:
                above = random_polynomial(rng, prime, size)
                low = random_polynomial(rng, prime, rng.randrange(1, 15))
                low = (rng.randrange(1, prime),) + low[1:]
                for count in (0, 1, 13, 250, 400):
                    row = expansion(prime, above, low, count)
                    self.assertEqual((type(row), len(row)), (tuple, count))
                    self.assertTrue(all(0 <= number < prime for number in row))
                    product = slow_product(prime, row, low)
                    self.assertEqual(cut(product[:count]), cut(above[:count]))

    def test_back_to_the_row(self):
        for prime, taps, start in registers(8):
            self.assertEqual(expansion(prime, *fraction(prime, taps, start), 100), slow_run(prime, taps, start, 100))

    def test_largest(self):
        for prime in PRIMES:
            low = (1,) + (0,) * 199 + (prime - 1,)
            self.assertEqual(expansion(prime, (1,), low, 400), ((1,) + (0,) * 199) * 2)
            self.assertEqual(expansion(prime, (1,) * 201, (1,), 400), (1,) * 201 + (0,) * 199)

    def test_constants(self):
        self.assertEqual(expansion(7, (1, 2), (3,), 4), (5, 3, 0, 0))
        self.assertEqual(expansion(5, (), (2, 1), 3), (0, 0, 0))

    def test_wrong(self):
        for prime in PRIMES:
            wrong = [(BadPrime, WRONG_PRIMES), (BadPolynomial, wrong_polynomials(prime)),
                     (BadPolynomial, wrong_polynomials(prime)), (BadNumber, wrong_integers(0, 400))]
            check_wrong(self, expansion, (prime, (1, 1), (1, 1), 5), wrong)

    def test_zero_divisor_is_behind_the_others(self):
        for prime in PRIMES:
            for low in ((), (0, 1), (0, 0, prime - 1), (0,) * 200 + (1,)):
                for count in (0, 1, 400):
                    self.assertRaises(ZeroDivisor, expansion, prime, (1,), low, count)
                self.assertRaises(BadNumber, expansion, prime, (1,), low, 401)
                self.assertRaises(BadNumber, expansion, prime, (), low, True)
                self.assertRaises(BadPolynomial, expansion, prime, (0,), low, 3)
                self.assertRaises(BadPrime, expansion, 4, (1,), low, 3)


if __name__ == "__main__":
    unittest.main()
