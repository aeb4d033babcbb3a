"""Point 14: blocks that changes make shorter."""

import random
import unittest

from taprows.changes import changed_length, changes_to_lower, shows_change, steps
from taprows.errors import BadBlock, BadNumber
from taprows.periods import power_length
from tests.support import (OTHER_KINDS, all_rows, check_wrong, eliminated_least, error_of, random_row, wrong_blocks,
                           wrong_integers)

SIZES = (1, 2, 4, 8, 16, 32, 64, 128, 256)
OTHER_SIZES = [n for n in range(1, 401) if n not in SIZES]


def slow_length(block):
    """The size less the power of x + 1 that divides the block as a polynomial."""
    values, length = list(block), len(block)
    while length and sum(values) % 2 == 0:
        values = [sum(values[:n + 1]) % 2 for n in range(len(values) - 1)]
        length -= 1
    return length


def lengths_of(size):
    """The lengths of all blocks of a size, each block as an integer with a bit for each number."""
    found = [0] * 2 ** size
    for bits in range(1, 2 ** size):
        length, rest = size, bits
        while bin(rest).count("1") % 2 == 0:
            # The quotient by x + 1 has the sums of the bits from each place down to the first one.
            shift = 1
            while shift < size:
                rest ^= rest << shift
                shift *= 2
            rest &= 2 ** (length - 1) - 1
            length -= 1
        found[bits] = length
    return found


def bits_of(block):
    return sum(number << at for at, number in enumerate(block))


def slow_least_lengths(block, lengths):
    """The least lengths that at most 0, 1, 2, .. changes make, by trying all changes."""
    size = len(block)
    least = [size] * (size + 1)
    bits = bits_of(block)
    for other in range(2 ** size):
        changes = bin(bits ^ other).count("1")
        least[changes] = min(least[changes], lengths[other])
    for most in range(1, size + 1):
        least[most] = min(least[most], least[most - 1])
    return least


def slow_steps(least):
    found = [(0, least[0])]
    for changes, length in enumerate(least):
        if length < found[-1][1]:
            found.append((changes, length))
    return found


def distance(block, other):
    return sum(one != two for one, two in zip(block, other))


class Lengths(unittest.TestCase):

    def test_the_slow_ways_agree(self):
        for size in (1, 2, 4, 8):
            lengths = lengths_of(size)
            for block in all_rows(2, size):
                self.assertEqual(slow_length(block), lengths[bits_of(block)])
                self.assertEqual(slow_length(block), eliminated_least(2, block * 2))

    def check_block(self, block, lengths):
        least = slow_least_lengths(block, lengths)
        self.assertEqual(steps(block), slow_steps(least))
        for most, length in enumerate(least):
            told = changed_length(block, most)
            self.assertEqual((type(told), len(told)), (tuple, 2))
            self.assertEqual(told[0], length)
            self.assertEqual((type(told[1]), len(told[1])), (tuple, len(block)))
            self.assertEqual({type(number) for number in told[1]}, {int})
            self.assertLessEqual(distance(block, told[1]), most)
            self.assertEqual(lengths[bits_of(told[1])], length)
            self.assertIs(shows_change(block, most, told), True)
        lower = [most for most, length in enumerate(least) if length < least[0]]
        self.assertEqual(changes_to_lower(block), lower[0] if lower else None)

    def test_all_small_blocks(self):
        for size in (1, 2, 4, 8):
            lengths = lengths_of(size)
            for block in all_rows(2, size):
                self.check_block(block, lengths)

    def test_blocks_of_sixteen(self):
        lengths = lengths_of(16)
        rng = random.Random(1)
        for block in [random_row(rng, 2, 16) for _ in range(4)] + [(1,) + (0,) * 15, (0, 1, 1, 0) * 3 + (0, 1, 1, 1)]:
            self.check_block(block, lengths)

    def larger_blocks(self):
        rng = random.Random(2)
        for size in SIZES[4:]:
            yield from ((0,) * size, (1,) * size, (0,) * (size - 1) + (1,), (0, 1) * (size // 2), random_row(rng, 2, size))
            inner = random_row(rng, 2, size // 8) * 8
            at = rng.randrange(size)
            yield inner[:at] + (1 - inner[at],) + inner[at + 1:]

    def test_larger_blocks(self):
        for block in self.larger_blocks():
            size = len(block)
            told = steps(block)
            self.assertEqual(told[0], (0, slow_length(block)))
            self.assertEqual(told[-1][1], 0)
            # Only the block of zeros has the length 0.
            self.assertEqual(told[-1][0], sum(block))
            for (changes, length), (more, lesser) in zip(told, told[1:]):
                self.assertTrue(changes < more and lesser < length)
                # One change fewer does not do.
                for most, wanted in ((more - 1, length), (more, lesser)):
                    found, other = changed_length(block, most)
                    self.assertEqual((found, slow_length(other)), (wanted, wanted))
                    self.assertLessEqual(distance(block, other), most)
            self.assertEqual(changed_length(block, size), (0, (0,) * size))

    def test_changes_to_lower_by_the_known_number(self):
        # K. Kurosawa and others, 2000: 2 to the power of the ones in the binary figures of the size less the length.
        for block in self.larger_blocks():
            length = slow_length(block)
            wanted = 2 ** bin(len(block) - length).count("1") if length else None
            self.assertEqual(changes_to_lower(block), wanted)

    def test_no_changes(self):
        for block in self.larger_blocks():
            self.assertEqual(changed_length(block, 0), (power_length(2, block), block))

    def test_edges(self):
        self.assertEqual([changed_length((0,), most) for most in (0, 1)], [(0, (0,))] * 2)
        self.assertEqual([changed_length((1,), most) for most in (0, 1)], [(1, (1,)), (0, (0,))])
        self.assertEqual([changes_to_lower((0,)), changes_to_lower((1,))], [None, 1])
        self.assertEqual([steps((0,)), steps((1,))], [[(0, 0)], [(0, 1), (1, 0)]])
        for size in SIZES:
            self.assertEqual(steps((0,) * size), [(0, 0)])
            self.assertIsNone(changes_to_lower((0,) * size))
            for most in (0, size):
                self.assertEqual(changed_length((0,) * size, most), (0, (0,) * size))
            self.assertEqual(steps((1,) * size), [(0, 1), (size, 0)])
            self.assertEqual(changes_to_lower((1,) * size), size)
        self.assertEqual(steps((1,) + (0,) * 255), [(0, 256), (1, 0)])

    def test_new_lists(self):
        found = steps((1, 1, 1, 0))
        found.append(None)
        self.assertEqual(steps((1, 1, 1, 0)), [(0, 4), (1, 1), (3, 0)])


class Shows(unittest.TestCase):

    def test_all_values_of_small_blocks(self):
        for size in (1, 2, 4):
            lengths = lengths_of(size)
            for block in all_rows(2, size):
                least = slow_least_lengths(block, lengths)
                for most in range(size + 1):
                    for other in all_rows(2, size):
                        good = distance(block, other) <= most and lengths[bits_of(other)] == least[most]
                        for length in range(-1, size + 2):
                            wanted = good and length == least[most]
                            self.assertIs(shows_change(block, most, (length, other)), wanted)

    def test_one_change_too_many(self):
        block = (1, 1, 1, 0) * 64
        length, other = changed_length(block, 64)
        self.assertEqual((length, other), (1, (1,) * 256))
        self.assertIs(shows_change(block, 64, (1, other)), True)
        self.assertIs(shows_change(block, 63, (1, other)), False)
        self.assertIs(shows_change(block, 65, (1, other)), True)
        self.assertIs(shows_change(block, 256, (1, other)), False)

    def test_no_pairs(self):
        for value in OTHER_KINDS + [0, 1, 10 ** 30, (1, 1), (1, (1, 1, 1, 1), 0), [1, (1, 1, 1, 1)], (1, [1, 1, 1, 1]),
                                    {1: (1, 1, 1, 1)}, (True, (1, 1, 1, 1)), (1, (1, 1, 1, True)), ("1", (1, 1, 1, 1)),
                                    (1, (1, 1, 1)), (1, (1,)), (1, (1,) * 8), (1, "1111"), (1, (1, 1, 1, 3)), (None, None),
                                    (1, (1, 1, 1, -1)), ((1,), (1, 1, 1, 1)), (1, (1, 1, 1, None)), (1, ((1,),) * 4)]:
            self.assertIs(shows_change((1, 1, 1, 0), 1, value), False, value)
        self.assertIs(shows_change((1, 1, 1, 0), 1, (1, (1, 1, 1, 1))), True)
        self.assertIs(shows_change((1,), 1, (False, (0,))), False)
        self.assertIs(shows_change((1,), 1, (0, (False,))), False)


class Wrong(unittest.TestCase):

    def test_wrong(self):
        blocks = wrong_blocks(2) + [(1,) * n for n in (3, 5, 6, 255, 257, 384, 400)]
        for block in ((1,), (1, 1, 1, 0), (0,) * 256):
            for function in (changes_to_lower, steps):
                check_wrong(self, function, (block,), [(BadBlock, blocks)])
            wrong = [(BadBlock, blocks), (BadNumber, wrong_integers(0, len(block)))]
            check_wrong(self, changed_length, (block, 1), wrong)
            check_wrong(self, shows_change, (block, 1, None), wrong + [None])

    def test_other_sizes(self):
        for size in OTHER_SIZES + [512]:
            self.assertRaises(BadBlock, steps, (0,) * size)
            self.assertRaises(BadBlock, changed_length, (0,) * size, 0)
            self.assertRaises(BadBlock, shows_change, (0,) * size, 0, (0, (0,) * size))
            self.assertRaises(BadBlock, changes_to_lower, (0,) * size)

    def test_a_wrong_number_with_any_value(self):
        for value in (None, 5, [1], (0, (0,))):
            self.assertIs(error_of(shows_change, ((1,), 2, value)), BadNumber)
            self.assertIs(error_of(shows_change, ((2,), 2, value)), BadBlock)


if __name__ == "__main__":
    unittest.main()
