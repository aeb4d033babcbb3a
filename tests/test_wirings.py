"""Point 33: the other wiring."""

import random
import unittest

from taprows.errors import BadNumber, BadPrime, BadStart, BadTaps
from taprows.registers import run, state_after
from taprows.wirings import from_other, leap_rows, other_after, other_run, to_other
from tests.support import (PRIMES, WRONG_PRIMES, all_rows, check_wrong, random_row, random_wired, slow_run, wrong_integers,
                           wrong_starts, wrong_taps)

MOST = 10 ** 18
SMALL = {2: 4, 3: 3, 5: 2, 7: 1}
LARGE = (0, 1, 2, 7, 31, 59, 60)


def step(prime, taps, state):
    """The state of the other wiring behind a state."""
    first = state[0] if state else 0
    moved = list(state[1:]) + [0] if state else []
    return tuple((number + tap * first) % prime for number, tap in zip(moved, taps))


def slow_other_run(prime, taps, state, count):
    row = []
    for _ in range(count):
        row.append(state[0] if state else 0)
        state = step(prime, taps, state)
    return tuple(row)


def small(prime):
    return [(taps, start) for size in range(SMALL[prime] + 1) for taps in all_rows(prime, size)
            for start in all_rows(prime, size)]


def large(prime, seed):
    rng = random.Random(seed)
    found = [random_wired(rng, prime, size) for size in LARGE]
    found += [(taps[:-1] + (0,), start) for taps, start in found if taps]
    return found + [((0,) * 60, random_row(rng, prime, 60)), ((prime - 1,) * 60, (prime - 1,) * 60), ((0,) * 5, (1,) * 5)]


class Wiring(unittest.TestCase):

    def check_numbers(self, prime, told, size):
        self.assertEqual((type(told), len(told)), (tuple, size))
        self.assertTrue(all(type(number) is int and 0 <= number < prime for number in told))


class Rows(Wiring):

    def test_small_states(self):
        for prime in PRIMES:
            for taps, state in small(prime):
                told = other_run(prime, taps, state, 15)
                self.assertEqual((type(told), told), (tuple, slow_other_run(prime, taps, state, 15)))

    def test_large_states(self):
        for prime in PRIMES:
            for taps, state in large(prime, 1):
                row = slow_other_run(prime, taps, state, 400)
                for count in (0, 1, 59, 60, 61, 399, 400):
                    told = other_run(prime, taps, state, count)
                    self.assertEqual(told, row[:count])
                    self.check_numbers(prime, told, count)

    def test_they_go_on_by_the_taps(self):
        for prime in PRIMES:
            for taps, state in large(prime, 2):
                row = other_run(prime, taps, state, 200)
                self.assertEqual(row, slow_run(prime, taps, row[:len(taps)], 200))

    def test_no_taps(self):
        for prime in PRIMES:
            for count in (0, 1, 400):
                self.assertEqual(other_run(prime, (), (), count), (0,) * count)

    def test_wrong(self):
        for prime in PRIMES:
            wrong = [(BadPrime, WRONG_PRIMES), (BadTaps, wrong_taps(prime)), (BadStart, wrong_starts(prime, (1, 0))),
                     (BadNumber, wrong_integers(0, 400))]
            check_wrong(self, other_run, (prime, (1, 0), (0, 1), 5), wrong)


class Turns(Wiring):

    def check(self, prime, taps, start):
        size = len(taps)
        state = to_other(prime, taps, start)
        self.check_numbers(prime, state, size)
        self.assertEqual(slow_other_run(prime, taps, state, 2 * size + 5), slow_run(prime, taps, start, 2 * size + 5))
        self.assertEqual(from_other(prime, taps, state), start)
        back = from_other(prime, taps, start)
        self.check_numbers(prime, back, size)
        self.assertEqual(back, slow_other_run(prime, taps, start, size))
        self.assertEqual(to_other(prime, taps, back), start)

    def test_small_registers(self):
        for prime in PRIMES:
            for taps, start in small(prime):
                self.check(prime, taps, start)
                self.assertEqual(other_run(prime, taps, to_other(prime, taps, start), 9), run(prime, taps, start, 9))

    def test_large_registers(self):
        for prime in PRIMES:
            for taps, start in large(prime, 3):
                self.check(prime, taps, start)

    def test_edges(self):
        for prime in PRIMES:
            self.assertEqual([to_other(prime, (), ()), from_other(prime, (), ())], [(), ()])
            for size in (1, 5, 60):
                self.assertEqual(to_other(prime, (1,) * size, (0,) * size), (0,) * size)
                self.assertEqual(from_other(prime, (1,) * size, (0,) * size), (0,) * size)
                # Without taps other than 0 both are the numbers themselves.
                self.assertEqual(to_other(prime, (0,) * size, (1,) * size), (1,) * size)

    def test_wrong(self):
        for prime in PRIMES:
            wrong = [(BadPrime, WRONG_PRIMES), (BadTaps, wrong_taps(prime)), (BadStart, wrong_starts(prime, (1, 0)))]
            for function in (to_other, from_other):
                check_wrong(self, function, (prime, (1, 0), (0, 1)), wrong)


class Leaps(Wiring):

    def test_states_by_walking(self):
        for prime in PRIMES:
            for taps, state in small(prime) + large(prime, 4):
                walked = state
                for steps in range(12 if len(taps) < 5 else 130):
                    if len(taps) < 5 or steps % 23 < 2 or steps in (59, 60, 61):
                        told = other_after(prime, taps, state, steps)
                        self.check_numbers(prime, told, len(taps))
                        self.assertEqual(told, walked)
                    walked = step(prime, taps, walked)

    def test_states_behind_one_another(self):
        rng = random.Random(5)
        for prime in PRIMES:
            for taps, state in large(prime, 6):
                one, other = rng.randrange(MOST), rng.randrange(MOST)
                one = min(one, MOST - other)
                behind = other_after(prime, taps, other_after(prime, taps, state, one), other)
                self.assertEqual(other_after(prime, taps, state, one + other), behind)
                self.assertEqual(other_after(prime, taps, state, MOST), step(
                    prime, taps, other_after(prime, taps, state, MOST - 1)))
                # The same as the register's own leap.
                start = from_other(prime, taps, state)
                self.assertEqual(other_after(prime, taps, state, one), to_other(
                    prime, taps, state_after(prime, taps, start, one)))

    def weighted(self, prime, rows, start):
        return tuple(sum(weight * number for weight, number in zip(row, start)) % prime for row in rows)

    def check_rows(self, prime, taps, steps):
        rows = leap_rows(prime, taps, steps)
        self.assertEqual((type(rows), len(rows)), (tuple, len(taps)))
        for row in rows:
            self.check_numbers(prime, row, len(taps))
        return rows

    def test_rows_of_small_registers(self):
        for prime in PRIMES:
            for size in range(SMALL[prime] + 1):
                for taps in all_rows(prime, size):
                    for steps in list(range(5)) + [MOST - 1, MOST]:
                        rows = self.check_rows(prime, taps, steps)
                        for start in all_rows(prime, size):
                            self.assertEqual(self.weighted(prime, rows, start), state_after(prime, taps, start, steps))

    def test_rows_of_large_registers(self):
        rng = random.Random(7)
        for prime in PRIMES:
            for taps, _ in large(prime, 8):
                size = len(taps)
                for steps in (0, 1, 60, 61, 222, MOST, rng.randrange(MOST)):
                    rows = self.check_rows(prime, taps, steps)
                    # The states of single ones tell weights.
                    for at in {0, size - 1} & set(range(size)):
                        start = (0,) * at + (1,) + (0,) * (size - at - 1)
                        if size < 9 or steps < 2:
                            self.assertEqual(tuple(row[at] for row in rows), state_after(prime, taps, start, steps))
                    for start in (random_row(rng, prime, size), (prime - 1,) * size):
                        if steps > 222:
                            self.assertEqual(self.weighted(prime, rows, start), state_after(prime, taps, start, steps))
                        else:
                            row = slow_run(prime, taps, start, steps + size)
                            self.assertEqual(self.weighted(prime, rows, start), row[steps:])

    def test_edges(self):
        for prime in PRIMES:
            for steps in (0, 1, MOST):
                self.assertEqual(leap_rows(prime, (), steps), ())
                self.assertEqual(other_after(prime, (), (), steps), ())
            for size in (1, 3, 60):
                units = tuple((0,) * at + (1,) + (0,) * (size - at - 1) for at in range(size))
                zeros = ((0,) * size,) * size
                self.assertEqual(leap_rows(prime, (1,) * size, 0), units)
                # Taps of 0 lead to zeros behind so many steps.
                self.assertEqual(leap_rows(prime, (0,) * size, size), zeros)
                self.assertEqual(leap_rows(prime, (0,) * size, MOST), zeros)
                self.assertEqual(other_after(prime, (0,) * size, (1,) * size, size - 1), (1,) + (0,) * (size - 1))
                self.assertEqual(other_after(prime, (0,) * size, (1,) * size, MOST), (0,) * size)

    def test_wrong(self):
        for prime in PRIMES:
            steps = [value for value in wrong_integers(0, MOST)]
            self.assertIn(MOST + 1, steps)
            wrong = [(BadPrime, WRONG_PRIMES), (BadTaps, wrong_taps(prime)), (BadNumber, steps)]
            check_wrong(self, leap_rows, (prime, (1, 0), 5), wrong)
            wrong[2:2] = [(BadStart, wrong_starts(prime, (1, 0)))]
            check_wrong(self, other_after, (prime, (1, 0), (0, 1), 5), wrong)


if __name__ == "__main__":
    unittest.main()
