"""Points 8 to 11: profiles, counts of rows, quotients, perfect rows."""

import random
import unittest
from collections import Counter
from fractions import Fraction
from itertools import product

from taprows.errors import BadLengths, BadNumber, BadPrime, BadProfile, BadRow, BadStart, BadTaps, TooMany
from taprows.profiles import (count_profile, count_rows, is_perfect, mean_length, partial_quotients, profile, profile_break,
                              row_of_profile, rows_of)
from tests.support import (PRIMES, WRONG_LENGTHS, WRONG_PRIMES, all_rows, check_wrong, cut, eliminated_least, error_of,
                           random_row, slow_least, slow_product, slow_run, slow_sum, wrong_integers, wrong_rows,
                           wrong_starts, wrong_taps)

SMALL = {2: 8, 3: 5, 5: 3, 7: 3}


def slow_profile(prime, row):
    """The profile, beginning by beginning."""
    return tuple(slow_least(prime, row[:n + 1]) for n in range(len(row)))


def small_rows():
    for prime in PRIMES:
        for size in range(SMALL[prime] + 1):
            yield from ((prime, row) for row in all_rows(prime, size))


def random_profile(rng, size):
    """Lengths made by the rule of the point 8."""
    lengths = []
    ahead = 0
    for at in range(size):
        if 2 * ahead <= at and rng.randrange(3) == 0:
            ahead = at + 1 - ahead
        lengths.append(ahead)
    return tuple(lengths)


def index_of_bad(function, *arguments):
    try:
        function(*arguments)
    except BadProfile as error:
        return error.index
    return None


class Profiles(unittest.TestCase):

    def test_small_rows(self):
        for prime, row in small_rows():
            self.assertEqual(profile(prime, row), slow_profile(prime, row))

    def test_longer_rows(self):
        rng = random.Random(1)
        for prime in PRIMES:
            for _ in range(8):
                zeros = rng.randrange(12)
                row = (0,) * zeros + random_row(rng, prime, 24 - zeros)
                for row in (row, slow_run(prime, row[zeros:zeros + 5], row[:5], 24)):
                    wanted = tuple(eliminated_least(prime, row[:n + 1]) for n in range(24))
                    self.assertEqual(profile(prime, row), wanted)

    def test_long_rows(self):
        for prime in PRIMES:
            self.assertEqual(profile(prime, (0,) * 400), (0,) * 400)
            self.assertEqual(profile(prime, (0,) * 399 + (1,)), (0,) * 399 + (400,))
            self.assertEqual(profile(prime, (prime - 1,) + (0,) * 399), (1,) * 400)
            self.assertEqual(profile(prime, (1,) + (0,) * 398 + (1,)), (1,) * 399 + (399,))
            self.assertEqual(profile(prime, ()), ())

    def test_wrong(self):
        for function in (profile, is_perfect):
            for prime in PRIMES:
                wrong = [(BadPrime, WRONG_PRIMES), (BadRow, wrong_rows(prime))]
                check_wrong(self, function, (prime, (0, 1)), wrong)
                check_wrong(self, function, (prime, (1,) * 400), wrong)


class Breaks(unittest.TestCase):

    def test_against_all_rows(self):
        for prime, size in ((2, 5), (3, 4)):
            profiles = {profile(prime, row) for n in range(size + 1) for row in all_rows(prime, n)}
            for lengths in (lengths for n in range(size + 1) for lengths in product(range(size + 2), repeat=n)):
                broken = [n for n in range(len(lengths)) if lengths[:n + 1] not in profiles]
                wanted = broken[0] if broken else None
                self.assertEqual(profile_break(lengths), wanted, lengths)
                self.assertEqual(index_of_bad(row_of_profile, prime, lengths), wanted)
                self.assertEqual(index_of_bad(count_profile, prime, lengths), wanted)

    def test_long_lengths(self):
        self.assertIsNone(profile_break(()))
        self.assertIsNone(profile_break((0,) * 400))
        self.assertIsNone(profile_break((0,) * 399 + (400,)))
        self.assertEqual(profile_break((0,) * 399 + (399,)), 399)
        self.assertEqual(profile_break((400,)), 0)
        self.assertEqual(profile_break((1,) * 399 + (400,)), 399)
        self.assertIsNone(profile_break((1,) * 399 + (399,)))

    def test_random_lengths(self):
        rng = random.Random(2)
        for _ in range(200):
            lengths = random_profile(rng, rng.randrange(1, 401))
            self.assertIsNone(profile_break(lengths))
            at = rng.randrange(len(lengths))
            ahead = lengths[at - 1] if at else 0
            allowed = [ahead, at + 1 - ahead] if 2 * ahead <= at else [ahead]
            wrong = rng.choice([length for length in range(401) if length not in allowed])
            self.assertEqual(profile_break(lengths[:at] + (wrong,) + lengths[at + 1:]), at)

    def test_wrong(self):
        check_wrong(self, profile_break, ((0, 2),), [(BadLengths, WRONG_LENGTHS)])
        check_wrong(self, profile_break, ((400,) * 400,), [(BadLengths, WRONG_LENGTHS)])


class RowsOfProfiles(unittest.TestCase):

    def test_counts(self):
        for prime in PRIMES:
            for size in range(SMALL[prime] + 1):
                counts = Counter(profile(prime, row) for row in all_rows(prime, size))
                for lengths, count in counts.items():
                    self.assertEqual(count_profile(prime, lengths), count)
                    row = row_of_profile(prime, lengths)
                    self.assertEqual(slow_profile(prime, row), lengths)
                    self.check_row(prime, row)

    def check_row(self, prime, row):
        self.assertIs(type(row), tuple)
        self.assertTrue(all(type(number) is int and 0 <= number < prime for number in row))

    def test_long_profiles(self):
        rng = random.Random(3)
        for prime in PRIMES:
            for size in (40, 60, 399, 400, 400):
                lengths = random_profile(rng, size)
                row = row_of_profile(prime, lengths)
                self.check_row(prime, row)
                self.assertEqual(profile(prime, row), lengths)

    def test_edges(self):
        for prime in PRIMES:
            self.assertEqual((row_of_profile(prime, ()), count_profile(prime, ())), ((), 1))
            self.assertEqual(row_of_profile(prime, (0,) * 400), (0,) * 400)
            self.assertEqual(count_profile(prime, (0,) * 400), 1)
            self.assertEqual(count_profile(prime, (0,) * 399 + (400,)), prime - 1)
            self.assertEqual(count_profile(prime, (1,) * 400), (prime - 1) * prime)
            self.assertEqual(count_profile(prime, (0,) * 199 + (200,) * 201), (prime - 1) * prime ** 200)

    def test_wrong(self):
        for function in (row_of_profile, count_profile):
            for prime in PRIMES:
                wrong = [(BadPrime, WRONG_PRIMES), (BadLengths, WRONG_LENGTHS)]
                check_wrong(self, function, (prime, (0, 2, 2)), wrong)

    def test_bad_profile_is_behind_the_others(self):
        for function in (row_of_profile, count_profile):
            self.assertIs(error_of(function, (2, (1, 2))), BadProfile)
            self.assertIs(error_of(function, (4, (1, 2))), BadPrime)
            self.assertIs(error_of(function, (2, (1, 2, True))), BadLengths)
            self.assertIs(error_of(function, (2, (1, 2, 401))), BadLengths)
            self.assertIs(error_of(function, (2, (5,) + (0,) * 400)), BadLengths)
            self.assertEqual(index_of_bad(function, 7, (0,) * 399 + (1,)), 399)


class Counts(unittest.TestCase):

    def test_small_sizes(self):
        for prime in PRIMES:
            for size in range(SMALL[prime] + 1):
                rows = {length: [] for length in range(size + 1)}
                for row in all_rows(prime, size):
                    rows[slow_least(prime, row)].append(row)
                for length, found in rows.items():
                    self.assertEqual(count_rows(prime, size, length), len(found))
                    self.assertEqual(rows_of(prime, size, length), found)
                total = sum(length * len(found) for length, found in rows.items())
                mean = Fraction(total, prime ** size)
                self.assertEqual(mean_length(prime, size), (mean.numerator, mean.denominator))

    def test_sums_of_counts(self):
        for prime in PRIMES:
            for size in (0, 1, 17, 50, 399, 400):
                counts = [count_rows(prime, size, length) for length in range(size + 1)]
                self.assertEqual(sum(counts), prime ** size)
                mean = Fraction(sum(length * count for length, count in enumerate(counts)), prime ** size)
                self.assertEqual(mean_length(prime, size), (mean.numerator, mean.denominator))

    def test_counts_of_profiles(self):
        # Each way of going on from a length, number by number, counted at once.
        for prime in PRIMES:
            ways = {0: 1}
            for at in range(60):
                behind = Counter()
                for length, count in ways.items():
                    if 2 * length <= at:
                        behind[length] += count
                        behind[at + 1 - length] += count * (prime - 1)
                    else:
                        behind[length] += count * prime
                ways = behind
                for length in range(at + 2):
                    self.assertEqual(count_rows(prime, at + 1, length), ways[length])

    def test_edges(self):
        for prime in PRIMES:
            self.assertEqual((count_rows(prime, 0, 0), rows_of(prime, 0, 0), mean_length(prime, 0)), (1, [()], (0, 1)))
            self.assertEqual(count_rows(prime, 400, 0), 1)
            self.assertEqual(count_rows(prime, 400, 400), prime - 1)
            self.assertEqual(rows_of(prime, 400, 0), [(0,) * 400])
            self.assertEqual(rows_of(prime, 400, 400), [(0,) * 399 + (number,) for number in range(1, prime)])

    def test_rows_of_long_sizes(self):
        for prime, size, length in ((2, 400, 5), (2, 400, 395), (3, 400, 3), (3, 400, 397), (5, 400, 2), (5, 400, 399),
                                    (7, 400, 1), (7, 400, 399), (2, 25, 5), (2, 25, 20), (3, 12, 3), (3, 12, 9),
                                    (2, 11, 5), (2, 11, 6), (2, 10, 5)):
            found = rows_of(prime, size, length)
            self.assertEqual(len(found), count_rows(prime, size, length))
            self.assertEqual(found, sorted(set(found)))
            for row in found:
                self.assertEqual((len(row), type(row)), (size, tuple))
            for row in found[::41] if size == 400 else found:
                self.assertTrue(all(0 <= number < prime for number in row))
                self.assertEqual(profile(prime, row)[-1], length)

    def test_too_many(self):
        for prime, least in ((2, 2048), (3, 4374), (5, 2500), (7, 2058)):
            bounds = []
            for size in range(30):
                for length in range(size + 1):
                    count = count_rows(prime, size, length)
                    if count > 2000:
                        bounds.append(count)
                        with self.assertRaises(TooMany) as caught:
                            rows_of(prime, size, length)
                        self.assertEqual(caught.exception.most, 2000)
            self.assertEqual(min(bounds), least)
            self.assertIs(error_of(rows_of, (prime, 400, 200)), TooMany)
            self.assertIs(error_of(rows_of, (prime, 400, 401)), BadNumber)

    def test_new_lists(self):
        rows_of(2, 3, 2).append(None)
        self.assertEqual(rows_of(2, 3, 2), [(0, 1, 0), (0, 1, 1), (1, 0, 1), (1, 1, 0)])

    def test_wrong(self):
        for prime in PRIMES:
            for function in (count_rows, rows_of):
                for size, length in ((3, 1), (400, 400), (0, 0)):
                    wrong = [(BadPrime, WRONG_PRIMES), (BadNumber, wrong_integers(0, 400)),
                             (BadNumber, wrong_integers(0, size))]
                    check_wrong(self, function, (prime, size, length), wrong)
            check_wrong(self, mean_length, (prime, 400), [(BadPrime, WRONG_PRIMES), (BadNumber, wrong_integers(0, 400))])


class Quotients(unittest.TestCase):

    def rebuilt(self, prime, quotients):
        """The pair (above, low) with these quotients."""
        above, low = (), (1,)
        for quotient in quotients[::-1]:
            above, low = low, slow_sum(prime, slow_product(prime, quotient, low), above)
        return above, low

    def series_times(self, prime, row, low):
        """Coefficients of the series s[0] / x + s[1] / x ** 2 + .. times low: those of the powers, and the row behind."""
        product = slow_product(prime, row[::-1], low)
        product = product + (0,) * (len(row) + len(low) - len(product))
        return cut(product[len(row):]), product[len(low) - 1:len(row)]

    def check(self, prime, taps, start):
        quotients = partial_quotients(prime, taps, start)
        self.assertIs(type(quotients), list)
        row = slow_run(prime, taps, start, 2 * len(taps) + 60)
        for quotient in quotients:
            self.assertEqual((type(quotient), quotient), (tuple, cut(quotient)))
            self.assertTrue(len(quotient) >= 2)
        above, low = self.rebuilt(prime, quotients)
        powers, behind = self.series_times(prime, row, low)
        self.assertEqual(powers, above)
        self.assertEqual(set(behind), {0})
        lengths = (0,) + profile(prime, row)
        jumps = [b - a for a, b in zip(lengths, lengths[1:]) if a != b]
        self.assertEqual([len(quotient) - 1 for quotient in quotients], jumps)

    def test_small_registers(self):
        for prime, most in ((2, 4), (3, 2), (5, 2), (7, 1)):
            for size in range(most + 1):
                for taps in all_rows(prime, size):
                    for start in all_rows(prime, size):
                        self.check(prime, taps, start)

    def test_larger_registers(self):
        rng = random.Random(4)
        for prime in PRIMES:
            for size in list(range(3, 20)) + [59, 60]:
                self.check(prime, random_row(rng, prime, size), random_row(rng, prime, size))
                zeros = (0,) * (size // 2)
                self.check(prime, random_row(rng, prime, size), zeros + random_row(rng, prime, size - len(zeros)))

    def test_no_quotients(self):
        for prime in PRIMES:
            self.assertEqual(partial_quotients(prime, (), ()), [])
            self.assertEqual(partial_quotients(prime, (1, 1), (0, 0)), [])
            self.assertEqual(partial_quotients(prime, (1,) * 60, (0,) * 60), [])

    def test_the_same_row_of_another_register(self):
        # 0 1 1 2 3 5 .. also goes on by longer taps.
        for taps in ((2, 0, 6), (1, 1, 0), (0, 2, 1)):
            self.assertEqual(partial_quotients(7, taps, (0, 1, 1)), [(6, 6, 1)])
        self.assertEqual(partial_quotients(5, (1,), (2,)), [(2, 3)])

    def test_new_lists(self):
        partial_quotients(7, (1, 1), (0, 1)).append(None)
        self.assertEqual(partial_quotients(7, (1, 1), (0, 1)), [(6, 6, 1)])

    def test_wrong(self):
        for prime in PRIMES:
            for taps in ((), (1,), (0, 1)):
                wrong = [(BadPrime, WRONG_PRIMES), (BadTaps, wrong_taps(prime)), (BadStart, wrong_starts(prime, taps))]
                check_wrong(self, partial_quotients, (prime, taps, (0,) * len(taps)), wrong)


class Perfect(unittest.TestCase):

    def test_small_rows(self):
        for prime, row in small_rows():
            wanted = all(2 * length in (n + 1, n + 2) for n, length in enumerate(slow_profile(prime, row)))
            self.assertIs(is_perfect(prime, row), wanted)

    def test_modulo_two(self):
        for size in range(1, 13):
            for row in all_rows(2, size):
                places = range(1, (size + 1) // 2)
                wanted = row[0] == 1 and all(row[2 * i] == (row[2 * i - 1] + row[i - 1]) % 2 for i in places)
                self.assertIs(is_perfect(2, row), wanted)

    def test_long_rows(self):
        for prime in PRIMES:
            row = row_of_profile(prime, tuple((n + 2) // 2 for n in range(400)))
            self.assertIs(is_perfect(prime, row), True)
            # From the odd index 399 on any number keeps the length, at 398 only some do.
            self.assertIs(is_perfect(prime, row[:399] + ((row[399] + 1) % prime,)), True)
            lower = row_of_profile(prime, tuple((n + 2) // 2 for n in range(398)) + (199, 199))
            self.assertIs(is_perfect(prime, lower), False)
            self.assertIs(is_perfect(prime, ()), True)
            self.assertIs(is_perfect(prime, (0,)), False)


if __name__ == "__main__":
    unittest.main()
