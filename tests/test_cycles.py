"""Point 18: cycles of states, their least states, and periods of rows."""

import random
import unittest
from collections import Counter

from taprows.cycles import cycle_starts, cycles, row_period
from taprows.errors import BadPrime, BadStart, BadTaps, NotUnit
from tests.support import (PRIMES, WRONG_PRIMES, all_rows, check_wrong, error_of, most_of, random_row, row_repeats,
                           slow_cycles, slow_period, slow_run, wrong_starts, wrong_taps)

MANY = 10 ** 12
SMALL = {2: 6, 3: 4, 5: 2, 7: 2}
# The greatest numbers of taps with at most 5000 states, and with at most 10 ** 12 states and 24 taps.
WALKED = {2: 12, 3: 7, 5: 5, 7: 4}
GREATEST = {2: 24, 3: 24, 5: 17, 7: 14}


def step_of(prime, taps):
    def step(state):
        return state[1:] + (sum(tap * state[-1 - at] for at, tap in enumerate(taps)) % prime,)
    return step


def all_taps(seed):
    """Taps of which the last one is not 0: all small ones, and some with as many states as can be walked."""
    rng = random.Random(seed)
    for prime in PRIMES:
        for size in range(1, SMALL[prime] + 1):
            yield from ((prime, taps) for taps in all_rows(prime, size) if taps[-1] != 0)
        for size in range(SMALL[prime] + 1, WALKED[prime] + 1):
            for _ in range(2):
                yield prime, random_row(rng, prime, size - 1) + (rng.randrange(1, prime),)
        yield prime, (0,) * (WALKED[prime] - 1) + (1,)
        yield prime, (0,) * (WALKED[prime] - 1) + (prime - 1,)


def taps_of_power(prime, low, exponent):
    """The taps that make the power of 1 less some terms."""
    product = [1]
    for _ in range(exponent):
        longer = [0] * (len(product) + len(low) - 1)
        for i, a in enumerate(product):
            for j, b in enumerate(low):
                longer[i + j] = (longer[i + j] + a * b) % prime
        product = longer
    return tuple(-number % prime for number in product[1:])


class Cycles(unittest.TestCase):

    def check(self, prime, taps):
        found = slow_cycles(step_of(prime, taps), all_rows(prime, len(taps)))
        told = cycles(prime, taps)
        self.assertEqual(told, sorted(Counter(len(cycle) for cycle in found).items()))
        self.assertIs(type(told), list)
        self.assertTrue(all(type(pair) is tuple and [type(part) for part in pair] == [int, int] for pair in told))
        starts = cycle_starts(prime, taps)
        self.assertIs(type(starts), list)
        self.assertEqual(starts, sorted(min(cycle) for cycle in found))

    def test_by_walking(self):
        for prime, taps in all_taps(1):
            self.check(prime, taps)

    def test_powers_of_a_factor(self):
        for prime, low, most in ((2, (1, 1), 12), (2, (1, 1, 1), 6), (2, (1, 1, 0, 1), 4), (3, (1, 2), 7), (3, (1, 1), 7),
                                 (3, (1, 0, 1), 3), (5, (1, 3), 5), (5, (1, 1, 1), 2), (7, (1, 4), 4), (7, (1, 1, 3), 2)):
            for exponent in range(1, most + 1):
                self.check(prime, taps_of_power(prime, low, exponent))

    def test_greatest(self):
        for prime in PRIMES:
            size = GREATEST[prime]
            # The states turn round: as many cycles as there are necklaces.
            told = dict(cycles(prime, (0,) * (size - 1) + (1,)))
            for length in range(1, size + 1):
                words = sum(prime ** d * mark for d, mark in moebius_divisors(length)) if size % length == 0 else 0
                self.assertEqual(told.get(length, 0), words // length)
            taps = random_row(random.Random(prime), prime, size - 1) + (1,)
            told = cycles(prime, taps)
            self.assertEqual(told, sorted(told))
            self.assertEqual(sum(length * many for length, many in told), prime ** size)
            self.assertEqual(told[0][0], 1)
            self.assertEqual(len({length for length, _ in told}), len(told))
        taps = tuple(1 if at in (17, 22, 23, 24) else 0 for at in range(1, 25))
        self.assertEqual(cycles(2, taps), [(1, 1), (2 ** 24 - 1, 1)])

    def test_too_many(self):
        for prime in PRIMES:
            for size in (GREATEST[prime] + 1, 25, 26, 60):
                if size > GREATEST[prime]:
                    self.assertEqual(most_of(self, cycles, prime, (1,) * size), MANY)
                    self.assertRaises(NotUnit, cycles, prime, (1,) * (size - 1) + (0,))
            for size in (WALKED[prime] + 1, WALKED[prime] + 2, 24, 25, 60):
                self.assertEqual(most_of(self, cycle_starts, prime, (1,) * size), 5000)
                self.assertRaises(NotUnit, cycle_starts, prime, (1,) * (size - 1) + (0,))
            self.assertIsNone(error_of(cycle_starts, (prime, (1,) * WALKED[prime])))

    def test_not_unit(self):
        for prime in PRIMES:
            for function in (cycles, cycle_starts):
                for taps in ((), (0,), (1, 0), (0, 0), (1, 1, 0), (0,) * 60):
                    self.assertRaises(NotUnit, function, prime, taps)
                self.assertRaises(BadPrime, function, 4, ())

    def test_wrong(self):
        for prime in PRIMES:
            for function in (cycles, cycle_starts):
                for taps in ((1,), (0, 1)):
                    check_wrong(self, function, (prime, taps), [(BadPrime, WRONG_PRIMES), (BadTaps, wrong_taps(prime))])

    def test_new_lists(self):
        for function, wanted in ((cycles, [(1, 1), (3, 1)]), (cycle_starts, [(0, 0), (0, 1)])):
            found = function(2, (1, 1))
            found.append(None)
            self.assertEqual(function(2, (1, 1)), wanted)


def moebius_divisors(number):
    """The pairs of a divisor and the sign with which its power counts among words that do not repeat."""
    marks = {1: 1}
    found = []
    for d in range(1, number + 1):
        if d > 1:
            marks[d] = -sum(marks[e] for e in range(1, d) if d % e == 0)
    for d in range(1, number + 1):
        if number % d == 0:
            found.append((d, marks[number // d]))
    return found


class Periods(unittest.TestCase):

    def test_all_small_registers(self):
        for prime in PRIMES:
            for size in range({2: 5, 3: 3, 5: 2, 7: 2}[prime] + 1):
                for taps in all_rows(prime, size):
                    step = step_of(prime, taps)
                    for start in all_rows(prime, size):
                        told = row_period(prime, taps, start)
                        # States tell the rest of the row; the row may repeat ahead of the state.
                        ahead, period = slow_period(step, start)
                        row = slow_run(prime, taps, start, ahead + 4 * period + size + 2)
                        self.assertEqual(told, self.of_row(row, ahead, period))

    def of_row(self, row, ahead, period):
        """The least ahead and period of a row that repeats in some way, by the row itself."""
        tail = row[ahead:ahead + 3 * period]
        least = next(n for n in range(1, period + 1) if period % n == 0 and tail[n:] == tail[:-n])
        while ahead > 0 and row[ahead - 1] == row[ahead - 1 + least]:
            ahead -= 1
        return ahead, least

    def test_rows_themselves(self):
        rng = random.Random(2)
        for prime in PRIMES:
            for size in range(1, {2: 8, 3: 5, 5: 4, 7: 3}[prime]):
                for _ in range(6):
                    zeros = rng.randrange(4)
                    taps = random_row(rng, prime, size) + (0,) * zeros
                    start = random_row(rng, prime, size + zeros)
                    row = slow_run(prime, taps, start, 8 * prime ** size + 40)
                    self.assertEqual(row_period(prime, taps, start), row_repeats(row))

    def test_last_taps_zero(self):
        for prime in PRIMES:
            for zeros in range(5):
                taps = (1,) + (0,) * zeros
                self.assertEqual(row_period(prime, taps, (1,) + (0,) * zeros), (1 if zeros else 0, 1))
                self.assertEqual(row_period(prime, taps, (0,) * zeros + (1,)), (zeros, 1))
                self.assertEqual(row_period(prime, (0,) * (zeros + 1), (0,) * zeros + (1,)), (zeros + 1, 1))
                self.assertEqual(row_period(prime, taps, (1,) * (zeros + 1)), (0, 1))

    def test_zeros(self):
        for prime in PRIMES:
            for size in (0, 1, 2, GREATEST[prime]):
                self.assertEqual(row_period(prime, (1,) * size, (0,) * size), (0, 1))

    def test_shorter_registers_count(self):
        # The register has states with longer cycles than the one of this start.
        self.assertEqual(row_period(2, (0, 0, 1, 0, 0, 0), (1, 1, 1, 1, 1, 1)), (0, 1))
        self.assertEqual(row_period(2, (0, 0, 0, 0, 0, 1), (1, 0, 1, 0, 1, 0)), (0, 2))
        self.assertEqual(row_period(3, (0, 0, 0, 1, 0), (1, 2, 2, 1, 2)), (1, 4))

    def test_greatest(self):
        taps = tuple(1 if at in (17, 22, 23, 24) else 0 for at in range(1, 25))
        self.assertEqual(row_period(2, taps, (0,) * 23 + (1,)), (0, 2 ** 24 - 1))
        for prime in PRIMES:
            size = GREATEST[prime]
            self.assertEqual(row_period(prime, (0,) * (size - 1) + (1,), (0,) * (size - 1) + (1,)), (0, size))
            self.assertEqual(row_period(prime, (0,) * size, (0,) * (size - 1) + (1,)), (size, 1))

    def test_too_many(self):
        for prime in PRIMES:
            for size in (GREATEST[prime] + 1, 25, 26, 60):
                if size > GREATEST[prime]:
                    for taps in ((1,) * size, (0,) * size):
                        self.assertEqual(most_of(self, row_period, prime, taps, (0,) * size), MANY)
                        self.assertRaises(BadStart, row_period, prime, taps, (0,) * (size - 1))

    def test_wrong(self):
        for prime in PRIMES:
            for taps in ((), (1,), (1, 0)):
                wrong = [(BadPrime, WRONG_PRIMES), (BadTaps, wrong_taps(prime)), (BadStart, wrong_starts(prime, taps))]
                check_wrong(self, row_period, (prime, taps, (0,) * len(taps)), wrong)


if __name__ == "__main__":
    unittest.main()
