"""Point 34: one register for several rows."""

import random
import unittest

from taprows.common import common_bound, common_length, common_taps, shows_common_bound
from taprows.errors import BadNumber, BadPrime, BadRows
from taprows.shortest import least_length
from tests.support import (PRIMES, WRONG_PRIMES, all_rows, check_wrong, random_row, slow_makes, slow_run, solvable,
                           wrong_integers, wrong_tuples)


def makes_all(prime, taps, rows):
    return all(slow_makes(prime, taps, row) for row in rows)


def slow_common(prime, rows):
    """The least length of a register that makes all rows, by trying all taps."""
    length = 0
    while not any(makes_all(prime, taps, rows) for taps in all_rows(prime, length)):
        length += 1
    return length


def eliminated_common(prime, rows):
    """The least length of a register that makes all rows, by elimination, length by length."""
    length = 0
    while not solvable(prime, [row[n - length:n][::-1] + (row[n],) for row in rows for n in range(length, len(row))]):
        length += 1
    return length


def weights_show_all(prime, rows, length, value):
    """Whether tuples of numbers are weights by their own words (point 34)."""
    if [len(part) for part in value] != [max(0, len(row) - length) for row in rows]:
        return False
    sums = []
    for d in range(length + 1):
        total = 0
        for row, part in zip(rows, value):
            for n in range(length, len(row)):
                total += part[n - length] * row[n - d]
        sums.append(total % prime)
    return sums[0] != 0 and sums[1:] == [0] * length


def few_rows(rng, prime, most, sizes):
    return tuple(random_row(rng, prime, rng.randrange(sizes)) for _ in range(rng.randrange(1, most + 1)))


def made_rows(rng, prime, length, sizes):
    """Rows of one register with random starts."""
    taps = random_row(rng, prime, length)
    return tuple(slow_run(prime, taps, random_row(rng, prime, length), size) for size in sizes)


class Common(unittest.TestCase):

    def check(self, prime, rows, length):
        told = common_length(prime, rows)
        self.assertEqual((type(told), told), (int, length), (prime, rows))
        taps = common_taps(prime, rows)
        self.assertEqual((type(taps), len(taps)), (tuple, length))
        self.assertTrue(all(type(tap) is int and 0 <= tap < prime for tap in taps))
        self.assertTrue(makes_all(prime, taps, rows))

    def check_bounds(self, prime, rows, least, lengths):
        for length in lengths:
            told = common_bound(prime, rows, length)
            if length >= least:
                self.assertIsNone(told)
                continue
            self.assertIs(type(told), tuple)
            for part in told:
                self.assertIs(type(part), tuple)
                self.assertTrue(all(type(number) is int and 0 <= number < prime for number in part))
            self.assertTrue(weights_show_all(prime, rows, length, told))
            self.assertIs(shows_common_bound(prime, rows, length, told), True)

    def test_small_rows(self):
        rng = random.Random(1)
        for prime in PRIMES:
            for _ in range({2: 250, 3: 120, 5: 60, 7: 40}[prime]):
                rows = few_rows(rng, prime, {2: 6, 3: 4, 5: 3, 7: 2}[prime], {2: 9, 3: 6, 5: 5, 7: 4}[prime])
                least = slow_common(prime, rows)
                self.check(prime, rows, least)
                self.check_bounds(prime, rows, least, range(max(map(len, rows)) + 1))
                self.assertEqual(eliminated_common(prime, rows), least)

    def test_all_pairs_of_short_rows(self):
        for prime in (2, 3):
            short = [row for size in range({2: 4, 3: 3}[prime]) for row in all_rows(prime, size)]
            for one in short:
                for other in short:
                    self.check(prime, (one, other), slow_common(prime, (one, other)))

    def test_larger_rows(self):
        rng = random.Random(2)
        for prime in PRIMES:
            for _ in range(6):
                rows = few_rows(rng, prime, 6, 30)
                least = eliminated_common(prime, rows)
                self.check(prime, rows, least)
                self.check_bounds(prime, rows, least, range(max(map(len, rows)) + 1))

    def test_rows_of_one_register(self):
        rng = random.Random(3)
        for prime in PRIMES:
            for length, sizes in ((3, (20, 15, 9)), (5, (40,)), (8, (30, 30, 30, 30, 30, 30)), (12, (9, 12, 50, 0, 13))):
                rows = made_rows(rng, prime, length, sizes)
                least = eliminated_common(prime, rows)
                self.assertLessEqual(least, length)
                self.check(prime, rows, least)
                self.check_bounds(prime, rows, least, {0, least - 1, least, max(sizes)} - {-1})

    def test_largest(self):
        rng = random.Random(4)
        for prime in PRIMES:
            rows = made_rows(rng, prime, 40, (100,) * 6)
            self.check(prime, rows, 40)
            self.check_bounds(prime, rows, 40, (0, 39, 40, 100))
            rows = tuple(random_row(rng, prime, 100) for _ in range(6))
            length = common_length(prime, rows)
            self.check(prime, rows, length)
            # The weights show that no lesser one does.
            self.check_bounds(prime, rows, length, (1, length - 1, length, 100))
            rows = ((0,) * 99 + (1,),) + ((0,) * 100,) * 5
            self.check(prime, rows, 100)
            self.check_bounds(prime, rows, 100, (99, 100))

    def test_one_row(self):
        rng = random.Random(5)
        for prime in PRIMES:
            for size in (0, 1, 2, 5, 20, 60, 100):
                row = random_row(rng, prime, size)
                self.check(prime, (row,), least_length(prime, row))
                # The same row six times.
                if size <= 60:
                    self.check(prime, (row,) * 6, least_length(prime, row))

    def test_edges(self):
        for prime in PRIMES:
            for rows in (((),), ((),) * 6, ((0,),), ((0,) * 100,) * 6, ((), (0, 0), (0,))):
                self.check(prime, rows, 0)
                self.check_bounds(prime, rows, 0, {0, 1, 2, 50, 99, 100} & set(range(max(map(len, rows)) + 1)))
            # A row no longer than the length is made by each register.
            self.check(prime, ((0, 0, 1), (1, 1, 1), (1, 0)), 3)
            self.check(prime, ((1,), (), (prime - 1,)), 1)
            self.assertEqual(common_bound(prime, ((0, 1), ()), 1), ((1,), ()))

    def test_wrong_rows(self):
        good = (1, 0)
        for prime in PRIMES:
            for value in (0, 1, "", "ab", True, False, None, [], {}, (), [good], [good, good], {0: good}, (good,) * 7,
                          (None,) * 7, (0,) * 60):
                self.assertIsNone(self.index_of(prime, value))
            for value in wrong_tuples(prime) + [(0,) * 101, (1,) * 101, (0,) * 400]:
                for many in range(1, 7):
                    for at in range(many):
                        for behind in (good, None, value):
                            self.assertEqual(self.index_of(prime, (good,) * at + (value,) + (behind,) * (many - at - 1)), at)
            self.assertEqual(self.index_of(prime, (0, 1)), 0)

    def index_of(self, prime, value):
        indexes = []
        calls = [(common_length, ()), (common_taps, ()), (common_bound, (0,)), (shows_common_bound, (0, ((1, 1),)))]
        for function, more in calls:
            with self.assertRaises(BadRows) as caught:
                function(prime, value, *more)
            indexes.append(caught.exception.index)
        self.assertEqual(len(set(indexes)), 1)
        return indexes[0]

    def test_wrong(self):
        rows = [(), None, 0, "a", [], [(1,)], {}, True, (None,), ((1,), 3), ((1,) * 101,), ((1,),) * 7]
        for prime in PRIMES:
            wrong = [(BadPrime, WRONG_PRIMES), (BadRows, rows)]
            good = ((0, 1, 1), (1,), ())
            for function in (common_length, common_taps):
                check_wrong(self, function, (prime, good), wrong)
            wrong.append((BadNumber, wrong_integers(0, 3)))
            check_wrong(self, common_bound, (prime, good, 2), wrong)
            check_wrong(self, shows_common_bound, (prime, good, 2, 3), wrong + [None])
            for length in (0, 3):
                common_bound(prime, good, length)
            for many in (0, 1, 99, 100):
                rows_ = ((), (0,) * many)
                self.assertIsNone(common_bound(prime, rows_, many))
                self.assertRaises(BadNumber, common_bound, prime, rows_, many + 1)
                self.assertRaises(BadNumber, shows_common_bound, prime, rows_, many + 1, ((), ()))


class Shows(unittest.TestCase):

    def test_all_weights(self):
        for prime, rows in ((2, ((0, 1, 1), (1, 0))), (2, ((1, 1, 0, 1), ())), (3, ((0, 2), (1, 1, 2))), (3, ((1, 0),)),
                            (5, ((1, 2), (1,))), (7, ((3, 1), (0,))), (2, ((0, 0, 1), (1, 1, 1), (0, 1, 0)))):
            least = slow_common(prime, rows)
            for length in range(max(map(len, rows)) + 1):
                values = [()]
                for row in rows:
                    parts = all_rows(prime, max(0, len(row) - length))
                    values = [value + (part,) for value in values for part in parts]
                shown = [weights_show_all(prime, rows, length, value) for value in values]
                self.assertIs(any(shown), length < least)
                for value, told in zip(values, shown):
                    self.assertIs(shows_common_bound(prime, rows, length, value), told)

    def test_other_values(self):
        for prime in PRIMES:
            rows = ((0, 1, 1), (1, 0), ())
            good = ((1, 0), (0,), ())
            self.assertIs(shows_common_bound(prime, rows, 1, good), True)
            values = [None, True, False, 0, 1, "", "abc", [], {}, (), list(good), [good], {0: good}, (good,), good[:2],
                      good + ((),), ([1, 0], (0,), ()), ((1, 0), [0], ()), ((1, 0), (0,), None), ((1, 0), (0,), []),
                      ((1, 0), (0,), (0,)), ((1,), (0,), ()), ((1, 0, 0), (0,), ()), ((1, 0), (), ()), ((1, 0), (0, 0), ()),
                      ((True, 0), (0,), ()), ((1, False), (0,), ()), ((1, 0), (False,), ()), ((prime + 1, 0), (0,), ()),
                      ((1, prime), (0,), ()), ((1 - prime, 0), (0,), ()), ((1, 0), (prime,), ()), (("1", 0), (0,), ()),
                      ((None, 0), (0,), ()), (((1,), 0), (0,), ()), ("10", "0", ""), (1, 0, 0), ((0, 0), (0,), ())]
            for value in values:
                self.assertIs(shows_common_bound(prime, rows, 1, value), False, value)


if __name__ == "__main__":
    unittest.main()
