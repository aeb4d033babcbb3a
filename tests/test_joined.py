"""Points 19 and 20: the shortest registers of rows that are joined."""

import random
import unittest

from taprows.errors import BadNumber, BadPrime, BadRegister, BadRegisters
from taprows.joined import added, decimated, least_one, multiplied, woven
from tests.support import (PRIMES, WRONG_PRIMES, all_rows, check_wrong, eliminated_least, error_of, most_of, random_row,
                           random_wired, slow_makes, slow_run, wrong_integers, wrong_pairs)

NONE = ((), ())


def small_registers(prime, most):
    return [(taps, start) for size in range(most + 1) for taps in all_rows(prime, size) for start in all_rows(prime, size)]


def row_of(prime, wired, count):
    return slow_run(prime, wired[0], wired[1], count)


class Joined(unittest.TestCase):

    def check(self, prime, told, row, bound):
        """Check that a register is the shortest one of an endless row, of which a beginning is given."""
        self.assertEqual((type(told), len(told)), (tuple, 2))
        taps, start = told
        self.assertEqual((type(taps), type(start)), (tuple, tuple))
        self.assertEqual(len(taps), len(start))
        self.assertTrue(all(type(number) is int and 0 <= number < prime for number in taps + start))
        self.assertEqual(row[:len(start)], start)
        self.assertTrue(slow_makes(prime, taps, row))
        self.assertLessEqual(len(taps), bound)
        self.assertEqual(len(taps), eliminated_least(prime, row[:2 * bound]))


class Least(Joined):

    def test_small_registers(self):
        for prime in PRIMES:
            for wired in small_registers(prime, {2: 4, 3: 3, 5: 2, 7: 1}[prime]):
                size = len(wired[0])
                self.check(prime, least_one(prime, wired), row_of(prime, wired, 2 * size + 10), size)

    def test_larger_registers(self):
        rng = random.Random(1)
        for prime in PRIMES:
            for size in (5, 6, 7, 12, 59, 60):
                wired = random_wired(rng, prime, size)
                self.check(prime, least_one(prime, wired), row_of(prime, wired, 200), size)
                # A register of which the row is that of one that is much shorter.
                taps, start = random_wired(rng, prime, 3)
                zeros = (0,) * (size - 3)
                self.check(prime, least_one(prime, (taps + zeros, row_of(prime, (taps, start), size))),
                           row_of(prime, (taps, start), 200), size)

    def test_edges(self):
        for prime in PRIMES:
            self.assertEqual(least_one(prime, NONE), NONE)
            self.assertEqual(least_one(prime, ((1,) * 60, (0,) * 60)), NONE)
            self.assertEqual(least_one(prime, ((1,), (0,))), NONE)
            self.assertEqual(least_one(prime, ((0,), (1,))), ((0,), (1,)))
            wired = ((0,) * 60, (0,) * 59 + (1,))
            self.assertEqual(least_one(prime, wired), wired)
            self.assertEqual(least_one(prime, ((1,) + (0,) * 59, (1,) * 60)), ((1,), (1,)))

    def test_wrong(self):
        for prime in PRIMES:
            wrong = [(BadPrime, WRONG_PRIMES), (BadRegister, wrong_pairs(prime))]
            check_wrong(self, least_one, (prime, ((1,), (1,))), wrong)


class Two(Joined):

    def check_two(self, prime, one, other):
        many, more = len(one[0]), len(other[0])
        count = 2 * (many + more) + 10
        left, right = row_of(prime, one, count), row_of(prime, other, count)
        row = tuple((a + b) % prime for a, b in zip(left, right))
        self.check(prime, added(prime, one, other), row, many + more)
        count = 2 * many * more + 10
        left, right = row_of(prime, one, count), row_of(prime, other, count)
        row = tuple(a * b % prime for a, b in zip(left, right))
        self.check(prime, multiplied(prime, one, other), row, many * more)

    def test_small_registers(self):
        rng = random.Random(2)
        for prime in PRIMES:
            small = small_registers(prime, {2: 2, 3: 1, 5: 1, 7: 1}[prime])
            pairs = [(one, other) for one in small for other in small]
            for one, other in pairs if len(pairs) < 900 else rng.sample(pairs, 900):
                self.check_two(prime, one, other)

    def test_larger_registers(self):
        rng = random.Random(3)
        for prime in PRIMES:
            for many, more in ((2, 3), (3, 3), (4, 2), (5, 5), (1, 12), (7, 0), (0, 60), (7, 8), (3, 20), (60, 1)):
                one, other = random_wired(rng, prime, many), random_wired(rng, prime, more)
                if many + more <= 60 or many == 0:
                    self.check_two(prime, one, other)
                elif many * more <= 60:
                    row = tuple(a * other[1][0] * other[0][0] ** at % prime for at, a in enumerate(row_of(prime, one, 130)))
                    self.check(prime, multiplied(prime, one, other), row, 60)

    def test_rows_that_cancel(self):
        rng = random.Random(4)
        for prime in PRIMES:
            taps, start = random_wired(rng, prime, 20)
            minus = (taps, tuple(-number % prime for number in start))
            self.assertEqual(added(prime, (taps, start), minus), NONE)
            self.assertEqual(added(prime, (taps, start), NONE), least_one(prime, (taps, start)))
            self.assertEqual(added(prime, NONE, (taps, start)), least_one(prime, (taps, start)))
            one = ((1,), (1,))
            self.assertEqual(multiplied(prime, (taps, start), one), least_one(prime, (taps, start)))
            self.assertEqual(multiplied(prime, one, (taps, start)), least_one(prime, (taps, start)))
            for wired in ((taps, start), NONE, ((1,) * 60, (1,) * 60)):
                self.assertEqual(multiplied(prime, wired, NONE), NONE)
                self.assertEqual(multiplied(prime, NONE, wired), NONE)

    def test_longest_answers(self):
        for prime in PRIMES:
            one, other = ((0,) * 29 + (1,), (0,) * 29 + (1,)), ((0,) * 30, (0,) * 29 + (1,))
            taps, _ = added(prime, one, other)
            self.assertEqual(taps, (0,) * 29 + (1,) + (0,) * 30)
            # Rows that repeat after 7 and after 8 numbers, and those that do after 4 and 15.
            for many, more in ((7, 8), (4, 15)):
                one, other = ((0,) * (n - 1) + (1,) for n in (many, more))
                told = multiplied(prime, (one, (0,) * (many - 1) + (1,)), (other, (1,) + (0,) * (more - 1)))
                self.assertEqual(told[0], (0,) * (many * more - 1) + (1,))

    def test_too_many(self):
        for prime in PRIMES:
            sizes = {n: ((1,) * n, (0,) * n) for n in range(61)}
            for many in range(61):
                for more in (60 - many, 61 - many, 60):
                    if more <= 60:
                        call = (prime, sizes[many], sizes[more])
                        if many + more > 60:
                            self.assertEqual(most_of(self, added, *call), 60)
                        else:
                            self.assertEqual(added(*call), NONE)
            for many, more in ((61 // 2, 2), (31, 2), (2, 31), (8, 8), (7, 8), (60, 1), (1, 60), (60, 2), (60, 0), (4, 15),
                               (9, 7), (60, 60), (6, 10), (61 // 3, 3), (21, 3)):
                call = (prime, sizes[many], sizes[more])
                if many * more > 60:
                    self.assertEqual(most_of(self, multiplied, *call), 60)
                else:
                    self.assertEqual(multiplied(*call), NONE)

    def test_wrong(self):
        for prime in PRIMES:
            for function in (added, multiplied):
                values = wrong_pairs(prime)
                wrong = [(BadPrime, WRONG_PRIMES), (BadRegister, values), (BadRegister, values[::5])]
                check_wrong(self, function, (prime, ((1,), (1,)), NONE), wrong)
                # Ahead of the error for registers that are too long together.
                long = ((1,) * 60, (1,) * 60)
                wrong = [(BadPrime, WRONG_PRIMES), (BadRegister, values[::3]), (BadRegister, values[::3])]
                for at, (error, told) in enumerate(wrong):
                    for value in told:
                        call = [prime, long, long]
                        call[at] = value
                        self.assertIs(error_of(function, call), error)


class Woven(Joined):

    def check_woven(self, prime, registers):
        many = sum(len(taps) for taps, _ in registers)
        rows = [row_of(prime, wired, 2 * many + 4) for wired in registers]
        row = tuple(row[at] for at in range(2 * many + 4) for row in rows)
        self.check(prime, woven(prime, registers), row, many * len(registers))

    def test_small_registers(self):
        rng = random.Random(5)
        for prime in PRIMES:
            small = small_registers(prime, {2: 2, 3: 1, 5: 1, 7: 1}[prime])
            for wired in small:
                self.check_woven(prime, (wired,))
            for many in (2, 3, 4):
                for _ in range(60):
                    self.check_woven(prime, tuple(rng.choice(small) for _ in range(many)))

    def test_larger_registers(self):
        rng = random.Random(6)
        for prime in PRIMES:
            for sizes in ((60,), (30, 0), (15, 15), (1, 29), (20, 0, 0), (7, 6, 7), (4, 4, 4, 3), (0, 0, 0, 15), (5, 2), (3,)):
                self.check_woven(prime, tuple(random_wired(rng, prime, size) for size in sizes))

    def test_the_order_counts(self):
        for prime in PRIMES:
            one, other = ((1,), (1,)), ((0,), (1,))
            self.assertEqual(woven(prime, (one, NONE)), ((0, 1), (1, 0)))
            self.assertEqual(woven(prime, (NONE, one)), ((0, 1), (0, 1)))
            self.assertEqual(woven(prime, (other, one, NONE)), ((0, 0, 1, 0), (1, 1, 0, 0)))

    def test_edges(self):
        for prime in PRIMES:
            for many in range(1, 5):
                self.assertEqual(woven(prime, (NONE,) * many), NONE)
                self.assertEqual(woven(prime, (((1,), (1,)),) * many), ((1,), (1,)))

    def test_too_many(self):
        for prime in PRIMES:
            sizes = {n: ((1,) * n, (0,) * n) for n in range(61)}
            for told in ((60,), (30, 0), (0, 30), (15, 15), (20, 0, 0), (0, 0, 0, 15), (4, 4, 4, 3), (7, 7, 6)):
                self.assertEqual(woven(prime, tuple(sizes[n] for n in told)), NONE)
            for told in ((31, 0), (0, 31), (60, 60), (15, 16), (21, 0, 0), (0, 0, 0, 16), (4, 4, 4, 4), (7, 7, 7)):
                self.assertEqual(most_of(self, woven, prime, tuple(sizes[n] for n in told)), 60)

    def index_of(self, prime, value):
        try:
            woven(prime, value)
        except BadRegisters as error:
            return error.index
        self.fail("no BadRegisters")

    def test_wrong(self):
        good = ((1,), (1,))
        for prime in PRIMES:
            for value in (0, 1, "", "ab", True, False, None, [], {}, (), [good], [good, good], {0: good}, (good,) * 5,
                          (None,) * 5, (NONE,) * 6, (0,) * 60):
                self.assertIsNone(self.index_of(prime, value))
            for value in wrong_pairs(prime):
                for many in range(1, 5):
                    for at in range(many):
                        told = (good,) * at + (value,) + (good,) * (many - at - 1)
                        self.assertEqual(self.index_of(prime, told), at)
                        told = (good,) * at + (value,) + (None,) * (many - at - 1)
                        self.assertEqual(self.index_of(prime, told), at)
                self.assertEqual(self.index_of(prime, (((1,) * 60, (1,) * 60), value)), 1)
            self.assertEqual(self.index_of(prime, good), 0)
            wrong = [(BadPrime, WRONG_PRIMES), (BadRegisters, [(), None, 0, "a", [], [good], {}, True, (None,), (good, 3)])]
            check_wrong(self, woven, (prime, (good,)), wrong)


class Decimated(Joined):

    def check_decimated(self, prime, wired, first, step):
        size = len(wired[0])
        count = 2 * size + 6
        row = row_of(prime, wired, first + step * count)[first::step][:count]
        self.assertEqual(len(row), count)
        self.check(prime, decimated(prime, wired, first, step), row, size)

    def test_small_registers(self):
        rng = random.Random(7)
        for prime in PRIMES:
            for wired in small_registers(prime, {2: 3, 3: 2, 5: 1, 7: 1}[prime]):
                for _ in range(2):
                    self.check_decimated(prime, wired, rng.randrange(12), rng.randrange(1, 12))

    def test_larger_registers(self):
        rng = random.Random(8)
        for prime in PRIMES:
            for size in (0, 1, 2, 3, 5, 8, 13):
                wired = random_wired(rng, prime, size)
                for first, step in ((0, 1), (1, 1), (0, 2), (3, prime), (1000, 1), (0, 1000), (1000, 1000), (999, 64)):
                    self.check_decimated(prime, wired, first, step)
            self.check_decimated(prime, random_wired(rng, prime, 60), 17, 9)
            self.check_decimated(prime, ((0,) * 59 + (1,), random_row(rng, prime, 60)), 1000, 7)

    def test_edges(self):
        for prime in PRIMES:
            for first in (0, 1000):
                for step in (1, 1000):
                    self.assertEqual(decimated(prime, NONE, first, step), NONE)
                    self.assertEqual(decimated(prime, ((1,), (1,)), first, step), ((1,), (1,)))
            wired = ((0,) * 60, (0,) * 59 + (1,))
            self.assertEqual(decimated(prime, wired, 0, 1), wired)
            self.assertEqual(decimated(prime, wired, 59, 1000), ((0,), (1,)))
            self.assertEqual(decimated(prime, wired, 59, 1), ((0,), (1,)))
            self.assertEqual(decimated(prime, wired, 60, 1), NONE)
            self.assertEqual(decimated(prime, wired, 0, 60), NONE)
            self.assertEqual(decimated(prime, wired, 19, 20), ((0, 0, 0), (0, 0, 1)))

    def test_wrong(self):
        for prime in PRIMES:
            wrong = [(BadPrime, WRONG_PRIMES), (BadRegister, wrong_pairs(prime)), (BadNumber, wrong_integers(0, 1000)),
                     (BadNumber, wrong_integers(1, 1000))]
            check_wrong(self, decimated, (prime, ((1,), (1,)), 0, 1), wrong)


if __name__ == "__main__":
    unittest.main()
