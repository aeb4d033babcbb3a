"""Points 21 and 22: agreement of rows of bits."""

import random
import unittest
from fractions import Fraction

from taprows.agreement import (agreements, complementary_pair, complementary_pairs, difference_set, is_complementary,
                               is_two_valued, merit, shifted_agreements, squares_block)
from taprows.errors import BadBits, BadNumber
from tests.support import WRONG_BITS, all_rows, check_wrong, error_of, random_row, wrong_integers


def small_bits(most):
    return [row for size in range(1, most + 1) for row in all_rows(2, size)]


def larger_bits(seed):
    rng = random.Random(seed)
    for size in (10, 11, 16, 31, 60, 127, 399, 400):
        yield random_row(rng, 2, size)
        yield (0,) * size
        yield (1,) * size
        yield (1,) + (0,) * (size - 1)


def slow_agreements(one, other):
    told = []
    for turn in range(len(one)):
        equal = 0
        for at in range(len(one)):
            equal += 1 if one[at] == other[(at + turn) % len(one)] else -1
        told.append(equal)
    return tuple(told)


def slow_shifted(one, other):
    told = []
    for shift in range(len(one)):
        equal = 0
        for at in range(len(one)):
            if at + shift < len(one):
                equal += 1 if one[at] == other[at + shift] else -1
        told.append(equal)
    return tuple(told)


def slow_difference_set(block):
    size = len(block)
    places = tuple(at for at in range(size) if block[at])
    counts = {d: sum((a - b) % size == d for a in places for b in places if a != b) for d in range(1, size)}
    if len(set(counts.values())) > 1:
        return None
    return places, next(iter(counts.values())) if counts else 0


def slow_complementary(one, other):
    sums = [a + b for a, b in zip(slow_shifted(one, one), slow_shifted(other, other))]
    return all(number == 0 for number in sums[1:])


class Agreements(unittest.TestCase):

    def check(self, one, other):
        for function, slow in ((agreements, slow_agreements), (shifted_agreements, slow_shifted)):
            told = function(one, other)
            self.assertEqual(told, slow(one, other))
            self.assertIs(type(told), tuple)
            self.assertEqual({type(number) for number in told}, {int})

    def test_small_bits(self):
        for size in range(1, 6):
            for one in all_rows(2, size):
                for other in all_rows(2, size):
                    self.check(one, other)

    def test_larger_bits(self):
        rng = random.Random(1)
        for one in larger_bits(1):
            if len(one) < 200:
                self.check(one, one)
                self.check(one, random_row(rng, 2, len(one)))

    def test_the_other_one_is_moved(self):
        self.assertEqual(agreements((1, 0, 0, 0), (0, 1, 0, 0)), (0, 4, 0, 0))
        self.assertEqual(agreements((0, 1, 0, 0), (1, 0, 0, 0)), (0, 0, 0, 4))
        self.assertEqual(shifted_agreements((1, 0, 0, 0), (0, 1, 0, 0)), (0, 3, 0, -1))
        self.assertEqual(shifted_agreements((0, 1, 0, 0), (1, 0, 0, 0)), (0, 1, 0, 1))

    def test_greatest(self):
        rng = random.Random(2)
        self.check(random_row(rng, 2, 400), random_row(rng, 2, 400))
        self.assertEqual(agreements((1,) * 400, (1,) * 400), (400,) * 400)
        self.assertEqual(agreements((1,) * 400, (0,) * 400), (-400,) * 400)
        self.assertEqual(shifted_agreements((1,) * 400, (0,) * 400), tuple(range(-400, 0)))

    def test_one_number(self):
        for one in (0, 1):
            for other in (0, 1):
                for function in (agreements, shifted_agreements):
                    self.assertEqual(function((one,), (other,)), (1,) if one == other else (-1,))


class Two(unittest.TestCase):

    def test_two_valued(self):
        for block in small_bits(9) + list(larger_bits(3)):
            if len(block) < 130:
                told = slow_agreements(block, block)[1:]
                self.assertIs(is_two_valued(block), len(set(told)) <= 1)

    def test_difference_sets(self):
        for block in small_bits(10) + list(larger_bits(4)):
            if len(block) < 70:
                told = difference_set(block)
                self.assertEqual(told, slow_difference_set(block))
                self.assertIs(is_two_valued(block), told is not None)
                if told:
                    self.assertEqual([type(part) for part in told], [tuple, int])

    def test_known_difference_sets(self):
        for size, places, number in ((13, (0, 1, 3, 9), 1), (21, (3, 6, 7, 12, 14), 1), (11, (1, 3, 4, 5, 9), 2),
                                     (15, (0, 1, 2, 4, 5, 8, 10), 3), (37, (1, 7, 9, 10, 12, 16, 26, 33, 34), 2)):
            block = tuple(1 if at in places else 0 for at in range(size))
            self.assertEqual(difference_set(block), (places, number))
            self.assertIs(is_two_valued(block), True)
            self.assertIs(is_two_valued(block[:-1] + (1 - block[-1],)), False)
            self.assertIsNone(difference_set(block[:-1] + (1 - block[-1],)))

    def test_edges(self):
        self.assertEqual([difference_set((0,)), difference_set((1,))], [((), 0), ((0,), 0)])
        self.assertEqual([is_two_valued((0,)), is_two_valued((1,))], [True, True])
        for size in (2, 3, 399, 400):
            self.assertEqual(difference_set((0,) * size), ((), 0))
            self.assertEqual(difference_set((0,) * (size - 1) + (1,)), ((size - 1,), 0))
            self.assertEqual(difference_set((1,) * size), (tuple(range(size)), size))
            self.assertEqual(difference_set((0,) + (1,) * (size - 1)), (tuple(range(1, size)), size - 2))
            self.assertIs(is_two_valued((1,) * size), True)
        self.assertIsNone(difference_set((1, 1) + (0,) * 398))
        self.assertIs(is_two_valued((1, 1) + (0,) * 398), False)


class Merit(unittest.TestCase):

    def test_merit(self):
        for row in small_bits(9) + list(larger_bits(5)):
            if len(row) < 130:
                squares = sum(number ** 2 for number in slow_shifted(row, row)[1:])
                wanted = None
                if squares:
                    value = Fraction(len(row) ** 2, 2 * squares)
                    wanted = (value.numerator, value.denominator)
                told = merit(row)
                self.assertEqual(told, wanted)
                self.assertTrue(told is None or [type(part) for part in (told, *told)] == [tuple, int, int])

    def test_known_merits(self):
        # The Barker row of 13 numbers has the greatest merit that is known: 169 / 12.
        self.assertEqual(merit((1, 1, 1, 1, 1, 0, 0, 1, 1, 0, 1, 0, 1)), (169, 12))
        self.assertEqual(merit((1, 1, 0, 1)), (4, 1))
        squares = sum(number ** 2 for number in range(1, 400))
        value = Fraction(160000, 2 * squares)
        self.assertEqual(merit((0,) * 400), (value.numerator, value.denominator))

    def test_sum_of_zero(self):
        self.assertEqual([merit((0,)), merit((1,))], [None, None])
        self.assertEqual([row for row in small_bits(8) if merit(row) is None], [(0,), (1,)])


class Complementary(unittest.TestCase):

    def test_all_pairs_of_small_sizes(self):
        for size in range(1, 7):
            rows = all_rows(2, size)
            wanted = [(one, other) for one in rows for other in rows if slow_complementary(one, other)]
            told = complementary_pairs(size)
            self.assertIs(type(told), list)
            self.assertEqual(told, wanted)
            for one in rows:
                for other in rows:
                    self.assertIs(is_complementary(one, other), (one, other) in wanted)

    def test_counts(self):
        counts = [len(complementary_pairs(size)) for size in range(1, 11)]
        self.assertEqual(counts, [4, 8, 0, 32, 0, 0, 0, 192, 0, 128])
        for size in (8, 10):
            told = complementary_pairs(size)
            self.assertEqual(told, sorted(set(told)))
            self.assertTrue(all(slow_complementary(one, other) for one, other in told))

    def test_pairs_of_powers(self):
        pair = ((0,), (0,))
        for power in range(9):
            told = complementary_pair(power)
            self.assertEqual(told, pair)
            self.assertEqual([type(part) for part in (told, *told)], [tuple] * 3)
            self.assertIs(is_complementary(*told), True)
            self.assertEqual(len(told[0]), 2 ** power)
            if power < 7:
                self.assertTrue(slow_complementary(*told))
            one, other = pair
            pair = (one + other, one + tuple(1 - number for number in other))

    def test_larger_rows(self):
        one, other = complementary_pair(8)
        for at in (0, 100, 255):
            changed = other[:at] + (1 - other[at],) + other[at + 1:]
            self.assertIs(is_complementary(one, changed), False)
        self.assertIs(is_complementary(one, other[::-1]), True)
        self.assertIs(is_complementary(other, one), True)
        self.assertIs(is_complementary((0,) * 400, (0,) * 400), False)
        self.assertIs(is_complementary((0,), (1,)), True)

    def test_wrong_numbers(self):
        check_wrong(self, complementary_pair, (3,), [(BadNumber, wrong_integers(0, 8))])
        check_wrong(self, complementary_pairs, (3,), [(BadNumber, wrong_integers(1, 10))])
        found = complementary_pairs(1)
        found.append(None)
        self.assertEqual(complementary_pairs(1), [((0,), (0,)), ((0,), (1,)), ((1,), (0,)), ((1,), (1,))])


class Squares(unittest.TestCase):

    def test_all_sizes(self):
        for size in range(-1, 500):
            if 3 <= size <= 400 and all(size % n for n in range(2, size)):
                squares = {n * n % size for n in range(size)}
                told = squares_block(size)
                self.assertEqual(told, tuple(0 if at in squares else 1 for at in range(size)))
                self.assertIs(type(told), tuple)
                if size < 60:
                    self.assertIs(is_two_valued(told), size % 4 == 3)
            else:
                self.assertRaises(BadNumber, squares_block, size)

    def test_wrong(self):
        values = wrong_integers(3, 400) + [2, 9, 15, 49, 361, 399, 400, 401, 409, 10 ** 30 + 57]
        check_wrong(self, squares_block, (397,), [(BadNumber, values)])


class Wrong(unittest.TestCase):

    def test_wrong(self):
        for bits in ((1,), (0, 1, 1), (0,) * 400):
            for function in (is_two_valued, difference_set, merit):
                check_wrong(self, function, (bits,), [(BadBits, WRONG_BITS)])
            for function in (agreements, shifted_agreements, is_complementary):
                check_wrong(self, function, (bits, bits), [(BadBits, WRONG_BITS), (BadBits, WRONG_BITS)])

    def test_other_sizes(self):
        for function in (agreements, shifted_agreements, is_complementary):
            for one, other in (((0,), (0, 0)), ((0, 0), (0,)), ((0,) * 399, (0,) * 400), ((0,) * 400, (1,))):
                self.assertIs(error_of(function, (one, other)), BadBits)


if __name__ == "__main__":
    unittest.main()
