"""Points 37 to 39: tables that read registers."""

import random
import unittest
from itertools import combinations, product

from taprows.errors import BadNumber, BadPlaces, BadRegister, BadSize, BadSums, BadTable
from taprows.filters import (farness, filter_bound, filtered, from_sums, immunity, nearest_sums, table_sums,
                             term_degree)
from taprows.freely import table_of
from taprows.shortest import least_length
from tests.support import (all_rows, check_wrong, eliminated_least, random_row, random_wired, slow_run, wrong_integers,
                           wrong_pairs, wrong_sizes, wrong_tables)

NONE = ((), ())
COUNTS = (0, 1, 2, 59, 399, 400)


def entries_of(size, table):
    """The entries of a table by their states."""
    return dict(zip(all_rows(2, size), table))


def random_places(rng, size, most=60):
    return tuple(sorted(rng.sample(range(most + 1), size)))


def random_tables(rng, size, many):
    """Tables with few ones, with about as many as zeros, and with many ones."""
    found = [(0,) * 2 ** size, (1,) * 2 ** size]
    for share in (1, 5, 9):
        found += [tuple(int(rng.randrange(10) < share) for _ in range(2 ** size)) for _ in range(many)]
    return found


def sum_table(state, constant):
    return tuple((constant + sum(a * b for a, b in zip(state, other))) % 2 for other in all_rows(2, len(state)))


# Rows.

def slow_filtered(wired, size, table, places, count):
    row = slow_run(2, *wired, 470)
    entries = entries_of(size, table)
    found = []
    for at in range(count):
        state = tuple(row[at + place] for place in places)
        found.append(entries[state])
    return tuple(found)


class Filtered(unittest.TestCase):

    def check(self, wired, size, table, places, count):
        told = filtered(wired, size, table, places, count)
        self.assertEqual((type(told), told), (tuple, slow_filtered(wired, size, table, places, count)))
        self.assertTrue(all(type(number) is int for number in told))

    def test_small_sizes(self):
        rng = random.Random(1)
        for size in (1, 2):
            for table in all_rows(2, 2 ** size):
                for _ in range(12):
                    wired = random_wired(rng, 2, rng.randrange(6))
                    self.check(wired, size, table, random_places(rng, size, rng.choice((2, 8, 60))), rng.randrange(60))

    def test_larger_sizes(self):
        rng = random.Random(2)
        for size in range(3, 10):
            for table in random_tables(rng, size, 2):
                for count in COUNTS:
                    wired = random_wired(rng, 2, rng.choice((0, 1, 5, 20, 60)))
                    self.check(wired, size, table, random_places(rng, size, rng.choice((size - 1, 20, 60))), count)

    def test_places_at_their_bounds(self):
        rng = random.Random(3)
        for length in (1, 7, 60):
            wired = random_wired(rng, 2, length)
            row = slow_run(2, *wired, 460)
            for place in (0, 1, 59, 60):
                self.assertEqual(filtered(wired, 1, (0, 1), (place,), 400), row[place:place + 400])
                self.assertEqual(filtered(wired, 1, (1, 0), (place,), 400), tuple(1 - n for n in row[place:place + 400]))
            self.check(wired, 2, (0, 1, 0, 0), (0, 60), 400)
            self.check(wired, 9, random_row(rng, 2, 512), (0, 1, 2, 3, 4, 57, 58, 59, 60), 400)

    def test_which_place_is_the_first_number(self):
        wired = ((0, 0, 0), (1, 0, 0))
        self.assertEqual(filtered(wired, 2, (0, 0, 1, 0), (0, 1), 3), (1, 0, 0))
        self.assertEqual(filtered(wired, 2, (0, 1, 0, 0), (0, 1), 3), (0, 0, 0))
        self.assertEqual(filtered(((0, 0, 0), (0, 0, 1)), 2, (0, 1, 0, 0), (0, 2), 3), (1, 0, 0))

    def test_rows_of_zeros(self):
        rng = random.Random(4)
        for size in (1, 3, 9):
            for table in random_tables(rng, size, 2):
                for wired in (NONE, ((1,) * 60, (0,) * 60)):
                    told = filtered(wired, size, table, random_places(rng, size), 400)
                    self.assertEqual(told, table[:1] * 400)

    def test_lengths_are_within_the_bound(self):
        rng = random.Random(5)
        for size in (1, 2, 3, 4, 6, 9):
            for table in random_tables(rng, size, 2):
                degree = max(0, term_degree(size, table))
                for length in (0, 1, 2, 3, 5, 7):
                    wired = random_wired(rng, 2, length)
                    most = filter_bound(length, degree)
                    places = random_places(rng, size, rng.choice((8, 60)))
                    row = filtered(wired, size, table, places, min(400, 2 * most + 10))
                    self.assertLessEqual(least_length(2, row), most)
                    if len(row) < 50:
                        self.assertLessEqual(eliminated_least(2, row), most)

    def test_the_bound_is_reached(self):
        # Both numbers 1: a register of four taps with the greatest period has rows of 4 + 6 taps.
        row = filtered(((0, 0, 1, 1), (0, 0, 0, 1)), 2, (0, 0, 0, 1), (0, 1), 100)
        self.assertEqual([least_length(2, row), filter_bound(4, 2) - 1], [10, 10])

    def test_wrong_places(self):
        good = (3, 60)
        values = [0, 1, True, None, "", "ab", [], [0, 1], list(good), {}, {0: 1, 1: 2}, (), (0,), (0, 1, 2), (1, 0), (0, 0),
                  (60, 60), (-1, 0), (0, 61), (60, 61), (0, 10 ** 30), (False, 1), (0, True), (0, "1"), (None, None),
                  ((0,), (1,)), ([0], [1]), ({}, {}), ("0", "1"), tuple(range(61)), tuple(range(62))]
        for value in values:
            self.assertRaises(BadPlaces, filtered, NONE, 2, (0, 1, 1, 0), value, 5)
        for size in range(1, 10):
            table = (0,) * 2 ** size
            for many in range(12):
                call = (NONE, size, table, tuple(range(many)), 3)
                if many == size:
                    self.assertEqual(filtered(*call), (0, 0, 0))
                else:
                    self.assertRaises(BadPlaces, filtered, *call)
        wrong = [(BadRegister, wrong_pairs(2)), (BadSize, wrong_sizes(2)), (BadTable, wrong_tables(2, 2)),
                 (BadPlaces, values), (BadNumber, wrong_integers(0, 400))]
        check_wrong(self, filtered, (((1,), (1,)), 2, (0, 1, 1, 0), good, 5), wrong)


# Terms.

def slow_degree(size, table):
    """The greatest length of a term, by the tables of all sets of terms of one length and less."""
    entries = entries_of(size, table)
    degree = -1
    for many in range(size + 1):
        for ones in combinations(range(size), many):
            # The term stands in the table if the entries for the states with ones only here add up to 1.
            below = [state for state in entries if all(state[at] == 0 or at in ones for at in range(size))]
            if sum(entries[state] for state in below) % 2:
                degree = many
    return degree


class Degrees(unittest.TestCase):

    def test_all_small_tables(self):
        for size in (1, 2, 3):
            for table in all_rows(2, 2 ** size):
                told = term_degree(size, table)
                self.assertEqual((type(told), told), (int, slow_degree(size, table)))

    def test_larger_tables(self):
        rng = random.Random(6)
        for size in (4, 5, 6):
            for table in random_tables(rng, size, 3):
                self.assertEqual(term_degree(size, table), slow_degree(size, table))

    def test_tables_of_terms(self):
        rng = random.Random(7)
        for size in range(1, 10):
            self.assertEqual(term_degree(size, (0,) * 2 ** size), -1)
            self.assertEqual(term_degree(size, (1,) * 2 ** size), 0)
            self.assertEqual(term_degree(size, table_of(size, (tuple(range(size)),))), size)
            for _ in range(10):
                terms = tuple(sorted({tuple(sorted(rng.sample(range(size), rng.randrange(size + 1)))) for _ in range(4)}))
                self.assertEqual(term_degree(size, table_of(size, terms)), max(map(len, terms)))

    def test_wrong(self):
        wrong = [(BadSize, wrong_sizes(2)), (BadTable, wrong_tables(2, 3))]
        for function in (term_degree, table_sums, farness, nearest_sums, immunity):
            check_wrong(self, function, (3, (0, 1) * 4), wrong)


class Bounds(unittest.TestCase):

    def test_all(self):
        # The rows of Pascal's triangle.
        row = [1]
        for length in range(61):
            for degree in range(10):
                told = filter_bound(length, degree)
                self.assertEqual((type(told), told), (int, sum(row[:degree + 1])))
            row = [a + b for a, b in zip([0] + row, row + [0])]

    def test_subsets(self):
        for length in range(8):
            for degree in range(10):
                many = len([ones for ones in product((0, 1), repeat=length) if sum(ones) <= degree])
                self.assertEqual(filter_bound(length, degree), many)

    def test_wrong(self):
        check_wrong(self, filter_bound, (4, 2), [(BadNumber, wrong_integers(0, 60)), (BadNumber, wrong_integers(0, 9))])


# Sums.

def slow_sums(size, table):
    found = []
    for state in all_rows(2, size):
        equal = [a == b for a, b in zip(table, sum_table(state, 0))]
        found.append(equal.count(True) - equal.count(False))
    return tuple(found)


def slow_nearest(size, table):
    """The least number of entries in which sums differ, and the sums that do."""
    differ = {}
    for state in all_rows(2, size):
        for constant in (0, 1):
            many = sum(a != b for a, b in zip(table, sum_table(state, constant)))
            differ.setdefault(many, []).append((state, constant))
    return min(differ), sorted(differ[min(differ)])


class Sums(unittest.TestCase):

    def check(self, size, table):
        told = table_sums(size, table)
        self.assertEqual((type(told), told), (tuple, slow_sums(size, table)))
        self.assertTrue(all(type(number) is int for number in told))
        back = from_sums(size, told)
        self.assertEqual((type(back), back), (tuple, table))
        self.assertTrue(all(type(number) is int for number in back))
        least, nearest = slow_nearest(size, table)
        self.assertEqual((type(farness(size, table)), farness(size, table)), (int, least))
        told = nearest_sums(size, table)
        self.assertEqual((type(told), told), (list, nearest))
        for pair in told:
            self.assertEqual([type(part) for part in (pair, *pair)], [tuple, tuple, int])

    def test_all_small_tables(self):
        for size in (1, 2, 3):
            for table in all_rows(2, 2 ** size):
                self.check(size, table)

    def test_larger_tables(self):
        rng = random.Random(8)
        for size in (4, 5, 6):
            for table in random_tables(rng, size, 2):
                self.check(size, table)
        self.check(9, random_row(rng, 2, 512))

    def test_sums_themselves(self):
        rng = random.Random(9)
        for size in range(1, 10):
            for _ in range(4):
                state, constant = random_row(rng, 2, size), rng.randrange(2)
                table = sum_table(state, constant)
                self.assertEqual([farness(size, table), nearest_sums(size, table)], [0, [(state, constant)]])
                told = table_sums(size, table)
                self.assertEqual([number for number in told if number], [2 ** size * (1 - 2 * constant)])
                self.assertEqual(from_sums(size, told), table)

    def test_the_farthest_table(self):
        # The sum of the products of pairs of numbers differs from all sums in 6 or 10 entries.
        table = table_of(4, ((0, 1), (2, 3)))
        self.assertEqual([farness(4, table), len(nearest_sums(4, table))], [6, 16])

    def test_lists_are_new(self):
        nearest_sums(1, (1, 0)).append(None)
        self.assertEqual(nearest_sums(1, (1, 0)), [((1,), 1)])

    def test_all_values_of_small_sizes(self):
        for size, most in ((1, 4), (2, 4)):
            tables = {slow_sums(size, table): table for table in all_rows(2, 2 ** size)}
            for values in product(range(-most, most + 1), repeat=2 ** size):
                if values in tables:
                    self.assertEqual(from_sums(size, values), tables[values])
                else:
                    self.assertRaises(BadSums, from_sums, size, values)

    def test_other_values(self):
        good = (2, 2, 2, -2)
        values = [0, 1, 2, True, False, None, "", "abcd", [], list(good), {}, {0: 2, 1: 2, 2: 2, 3: -2}, (), (0, 2), (2, 2, 2),
                  good + (0,), good + good, (2, 2, 2, 2), (0, 0, 0, 0), (4, 0, 0, 1), (4, 4, 4, 4), (8, 0, 0, 0), (1, 1, 1, 1),
                  (4, 0, 0, False), (True, 2, 2, 2), ("2", 2, 2, -2), (2, 2, 2, None), ((2,), 2, 2, -2), (2, 2, 2, [-2]),
                  (2, 2, 2, {}), (4 + 10 ** 30, 0, 0, 0), (-10 ** 30, 0, 0, 0), (6, 2, -2, 2), (3, 1, 1, -1)]
        self.assertEqual(from_sums(2, good), (0, 0, 0, 1))
        for value in values:
            self.assertRaises(BadSums, from_sums, 2, value)
        check_wrong(self, from_sums, (2, good), [(BadSize, wrong_sizes(2)), (BadSums, values)])
        rng = random.Random(10)
        for size in (5, 9):
            told = table_sums(size, random_row(rng, 2, 2 ** size))
            for at in (0, 1, 2 ** size - 1):
                for more in (-2, 1, 2, 2 ** size):
                    self.assertRaises(BadSums, from_sums, size, told[:at] + (told[at] + more,) + told[at + 1:])
            # The numbers of a table of another size.
            self.assertRaises(BadSums, from_sums, size - 1, told)
            self.assertRaises(BadSums, from_sums, size, told[:2 ** (size - 1)])


# Immunity.

def slow_immunity(size, table):
    """By all choices of indexes, and all numbers for them."""
    entries = entries_of(size, table)
    greatest = 0
    for many in range(1, size + 1):
        for indexes in combinations(range(size), many):
            counts = {}
            for state, entry in entries.items():
                told = tuple(state[at] for at in indexes)
                counts[told] = counts.get(told, 0) + entry
            if len(set(counts.values())) > 1:
                return greatest
        greatest = many
    return greatest


class Immunity(unittest.TestCase):

    def test_all_small_tables(self):
        for size in (1, 2, 3):
            for table in all_rows(2, 2 ** size):
                told = immunity(size, table)
                self.assertEqual((type(told), told), (int, slow_immunity(size, table)))

    def test_larger_tables(self):
        rng = random.Random(11)
        for size in (4, 5):
            for table in random_tables(rng, size, 5):
                self.assertEqual(immunity(size, table), slow_immunity(size, table))
            for state in all_rows(2, size):
                self.assertEqual(immunity(size, sum_table(state, 1)), slow_immunity(size, sum_table(state, 1)))

    def test_tables_with_some(self):
        rng = random.Random(12)
        for size in (4, 5, 6):
            for _ in range(25):
                # A sum of some numbers and any table of the others: the numbers of the sum tell nothing alone.
                many = rng.randrange(1, size)
                inner = random_row(rng, 2, 2 ** (size - many))
                outer = sum_table((1,) * many, 0)
                table = tuple(a ^ b for a in outer for b in inner)
                told = immunity(size, table)
                self.assertEqual(told, slow_immunity(size, table))
                self.assertGreaterEqual(told, many - 1)
                self.assertLessEqual(term_degree(size, table), size - told)

    def test_edges(self):
        for size in range(1, 10):
            states = all_rows(2, size)
            for constant in (0, 1):
                self.assertEqual(immunity(size, (constant,) * 2 ** size), size)
                self.assertEqual(immunity(size, sum_table((1,) * size, constant)), size - 1)
                self.assertEqual(immunity(size, sum_table((1,) + (0,) * (size - 1), constant)), 0)
                self.assertEqual(immunity(size, tuple(int(state == states[-1]) for state in states)), 0)


if __name__ == "__main__":
    unittest.main()
