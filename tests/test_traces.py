"""Points 43 and 44: rows of traces, spectra in fields."""

import random
import unittest

from taprows.errors import BadBlock, BadNumber, BadParts, BadPrime, BadSpectrum, BadStart, BadTaps, NotSingle
from taprows.extensions import element_power
from taprows.factors import primitives
from taprows.periods import block_taps, spectrum
from taprows.traces import trace_parts, trace_row, turned_rings, wide_block, wide_spectrum
from tests.support import (PRIMES, SOME_FIELDS, WRONG_PRIMES, all_rows, check_wrong, cut, error_of, field_elements,
                           field_power, field_product, most_of, random_row, random_wired, slow_makes, slow_product, slow_rest,
                           slow_run, slow_sum, slow_trace, slow_whole, wrong_blocks, wrong_elements, wrong_fields,
                           wrong_integers, wrong_starts, wrong_taps)

ONE = (1,)
GREATEST = {2: 24, 3: 24, 5: 17, 7: 14}


def slow_trace_row(prime, parts, count):
    row = []
    weights = [weight for _, weight in parts]
    for _ in range(count):
        row.append(sum(slow_trace(prime, low, weight) for (low, _), weight in zip(parts, weights)) % prime)
        weights = [field_product(prime, low, weight, (0, 1)) for (low, _), weight in zip(parts, weights)]
    return tuple(row)


def random_parts(rng, prime, lows):
    found = []
    for low in sorted(lows):
        weight = ()
        while not weight:
            weight = cut(random_row(rng, prime, len(low) - 1))
        found.append((low, weight))
    return tuple(found)


def some_lows(prime, most):
    """The field polynomials up to a degree, without x."""
    return [low for degree in range(1, most + 1) for low in slow_whole(prime, degree) if low != (0, 1)]


def wired_of(prime, modulus, start):
    """The register of which a polynomial with the leading number 1 is that of its taps."""
    return tuple(-number % prime for number in modulus[-2::-1]), start


class Rows(unittest.TestCase):

    def check(self, prime, parts, count):
        told = trace_row(prime, parts, count)
        self.assertEqual((type(told), told), (tuple, slow_trace_row(prime, parts, count)))
        self.assertTrue(all(type(number) is int for number in told))

    def test_one_part(self):
        for prime in PRIMES:
            for low in some_lows(prime, {2: 4, 3: 2, 5: 1, 7: 1}[prime]):
                for weight in field_elements(prime, low)[1:]:
                    self.check(prime, ((low, weight),), 20)

    def test_some_parts(self):
        rng = random.Random(1)
        for prime in PRIMES:
            lows = some_lows(prime, {2: 5, 3: 3, 5: 2, 7: 2}[prime])
            for many in (2, 3, 5, 6, 12):
                for _ in range(3):
                    self.check(prime, random_parts(rng, prime, rng.sample(lows, many)), 40)

    def test_greatest_fields(self):
        rng = random.Random(2)
        for prime in PRIMES:
            for low in SOME_FIELDS[prime]:
                if low != (0, 1):
                    self.check(prime, random_parts(rng, prime, [low]), 30)
            lows = set(SOME_FIELDS[prime]) - {(0, 1)}
            parts = random_parts(rng, prime, sorted(lows)[:12])
            whole = trace_row(prime, parts, 400)
            self.assertEqual(len(whole), 400)
            # The rows of the parts add up to it, and each goes on by its own polynomial.
            rows = [trace_row(prime, (part,), 400) for part in parts]
            self.assertEqual(tuple(sum(numbers) % prime for numbers in zip(*rows)), whole)
            for (low, _), row in zip(parts, rows):
                self.assertTrue(slow_makes(prime, wired_of(prime, low, ())[0], row))

    def test_counts(self):
        rng = random.Random(3)
        for prime in PRIMES:
            parts = random_parts(rng, prime, some_lows(prime, 2)[:3])
            row = slow_trace_row(prime, parts, 400)
            for count in (0, 1, 2, 3, 4, 399, 400):
                self.assertEqual(trace_row(prime, parts, count), row[:count])
                self.assertEqual(trace_row(prime, (), count), (0,) * count)

    def index_of(self, prime, parts):
        with self.assertRaises(BadParts) as caught:
            trace_row(prime, parts, 5)
        return caught.exception.index

    def wrong_parts(self, prime):
        """Things that are no parts, whatever stands ahead."""
        low = SOME_FIELDS[prime][2]
        values = [0, 1, True, None, "", "ab", (), (low,), (low, ONE, ONE), [], [low, ONE], {}, {0: low, 1: ONE}, (None, None),
                  ((0, 1), ONE), (low, ()), (low, low), (low, [1]), (low, 1), (low, True), (low, None), (list(low), ONE),
                  (low, ONE + (0,)), (low, "1"), (low, {})]
        values += [(bad, ONE) for bad in wrong_fields(prime)]
        return values + [(low, bad) for bad in wrong_elements(prime, low)]

    def test_wrong_parts(self):
        for prime in PRIMES:
            good = random_parts(random.Random(4), prime, sorted(set(SOME_FIELDS[prime]) - {(0, 1)})[-2:])
            for value in (0, 1, True, False, None, "", "ab", [], [good[0]], list(good), {}, {0: good[0]}, good[:1] * 13,
                          (None,) * 13, (0,) * 40):
                self.assertIsNone(self.index_of(prime, value), value)
            for value in self.wrong_parts(prime):
                self.assertEqual(self.index_of(prime, (value,)), 0, value)
                self.assertEqual(self.index_of(prime, (value, None)), 0)
                self.assertEqual(self.index_of(prime, good[:1] + (value,)), 1)
                self.assertEqual(self.index_of(prime, good + (value,)), 2)
                self.assertEqual(self.index_of(prime, good + (value, value)), 2)
            # A pair alone is a tuple of two things.
            self.assertEqual(self.index_of(prime, good[0]), 0)

    def test_parts_that_do_not_ascend(self):
        for prime in PRIMES:
            lows = sorted(some_lows(prime, {2: 5, 3: 3, 5: 2, 7: 2}[prime]))
            parts = tuple((low, ONE) for low in lows[:12])
            self.assertEqual(len(parts), 12)
            self.assertEqual(len(trace_row(prime, parts, 9)), 9)
            self.assertIsNone(self.index_of(prime, parts + ((lows[12], ONE),)))
            for at in range(1, 12):
                self.assertEqual(self.index_of(prime, parts[:at] + parts[at - 1:at] + parts[at + 1:]), at)
                self.assertEqual(self.index_of(prime, parts[:at - 1] + (parts[at], parts[at - 1]) + parts[at + 1:]), at)
            # The polynomial counts, not the weight.
            low = SOME_FIELDS[prime][3]
            self.assertEqual(self.index_of(prime, ((low, ONE), (low, (0, 1)))), 1)
            self.assertEqual(self.index_of(prime, parts[:2] + ((parts[1][0], None), None)), 2)

    def test_wrong(self):
        for prime in PRIMES:
            good = ((SOME_FIELDS[prime][1], ONE),)
            values = [None, 0, "a", [], {}, True, list(good), (1,), good + good, good * 13]
            values += [(value,) for value in self.wrong_parts(prime)]
            wrong = [(BadPrime, WRONG_PRIMES), (BadParts, values), (BadNumber, wrong_integers(0, 400))]
            check_wrong(self, trace_row, (prime, good, 5), wrong)


class Parts(unittest.TestCase):

    def check_kinds(self, prime, told):
        self.assertIs(type(told), tuple)
        for part in told:
            self.assertEqual([type(thing) for thing in (part, *part)], [tuple] * 3)
            self.assertTrue(all(type(number) is int for thing in part for number in thing))

    def test_told_back(self):
        rng = random.Random(5)
        for prime in PRIMES:
            lows = some_lows(prime, {2: 5, 3: 3, 5: 2, 7: 2}[prime])
            for _ in range(25):
                picked = rng.sample(lows, rng.randrange(6))
                while sum(len(low) - 1 for low in picked) > GREATEST[prime]:
                    picked.pop()
                parts = random_parts(rng, prime, picked)
                modulus = ONE
                for low in picked:
                    modulus = slow_product(prime, modulus, low)
                row = slow_trace_row(prime, parts, 2 * len(modulus))
                taps, start = wired_of(prime, modulus, row[:len(modulus) - 1])
                told = trace_parts(prime, taps, start)
                self.check_kinds(prime, told)
                self.assertEqual(told, parts)
                # Needless taps change nothing.
                more = slow_product(prime, modulus, rng.choice([(0, 1), (0, 0, 1), (1, 1), (prime - 1, 1)]))
                if len(more) - 1 <= GREATEST[prime]:
                    self.assertEqual(trace_parts(prime, *wired_of(prime, more, row[:len(more) - 1])), parts)

    def test_small_registers(self):
        for prime in PRIMES:
            for size in range({2: 5, 3: 3, 5: 2, 7: 2}[prime] + 1):
                for taps in all_rows(prime, size):
                    for start in all_rows(prime, size):
                        if size * prime > 10 and start != (1,) * size and start[1:] + start[:1] != taps:
                            continue
                        self.check_register(prime, taps, start)

    def check_register(self, prime, taps, start):
        """Parts are told just if no factor of the least polynomial stands twice or is x."""
        modulus = self.least_modulus(prime, slow_run(prime, taps, start, 2 * len(taps) + 2), len(taps))
        if modulus[0] == 0 or any(self.divides_twice(prime, low, modulus) for low in some_lows(prime, len(taps) // 2)):
            self.assertRaises(NotSingle, trace_parts, prime, taps, start)
            return
        told = trace_parts(prime, taps, start)
        self.check_kinds(prime, told)
        self.assertEqual(slow_trace_row(prime, told, 2 * len(taps) + 5), slow_run(prime, taps, start, 2 * len(taps) + 5))
        self.assertEqual(trace_row(prime, told, 60), slow_run(prime, taps, start, 60))
        product = ONE
        for low, _ in told:
            product = slow_product(prime, product, low)
        self.assertEqual(product, modulus)

    def least_modulus(self, prime, row, most):
        """The polynomial of the taps of the shortest register, by trying."""
        for size in range(most + 1):
            for taps in all_rows(prime, size):
                if slow_makes(prime, taps, row):
                    return tuple(-tap % prime for tap in reversed(taps)) + (1,)
        raise AssertionError("no register")

    def divides_twice(self, prime, low, modulus):
        return slow_rest(prime, modulus, slow_product(prime, low, low)) == ()

    def test_not_single(self):
        for prime in PRIMES:
            low = SOME_FIELDS[prime][3]
            for modulus in (slow_product(prime, low, low), (0,) + low, (0, 0) + low, (0, 1), (0, 0, 1), (1, 2 % prime, 1),
                            slow_product(prime, (prime - 1, 1), slow_product(prime, (prime - 1, 1), low))):
                size = len(modulus) - 1
                start = (0,) * (size - 1) + (1,)
                self.assertRaises(NotSingle, trace_parts, prime, *wired_of(prime, modulus, start))
                # Such a register's rows that a shorter one makes may have parts.
                self.assertEqual(trace_parts(prime, *wired_of(prime, modulus, (0,) * size)), ())
            row = slow_trace_row(prime, ((low, ONE),), 10)
            for modulus in (slow_product(prime, low, low), (0,) + low, (0, 0) + low):
                wired = wired_of(prime, modulus, row[:len(modulus) - 1])
                self.assertEqual(trace_parts(prime, *wired), ((low, ONE),))

    def test_no_parts(self):
        for prime in PRIMES:
            self.assertEqual(trace_parts(prime, (), ()), ())
            for size in (1, 2, 14):
                self.assertEqual(trace_parts(prime, (1,) * size, (0,) * size), ())
                self.assertEqual(trace_parts(prime, (0,) * size, (0,) * size), ())

    def test_factors_of_great_degree(self):
        # Their fields have more than 4096 elements, so the parts cannot be passed on.
        for prime, low in ((2, (1, 1, 0, 1, 1) + (0,) * 8 + (1,)), (2, (1,) * 19), (3, (2, 0, 0, 1, 0, 0, 0, 0, 1)),
                           (5, (2, 1, 0, 0, 0, 0, 1)), (7, (3, 6, 0, 0, 0, 1)),
                           (2, (1, 1, 1, 0, 0, 0, 0, 1) + (0,) * 16 + (1,))):
            size = len(low) - 1
            start = (0,) * (size - 1) + (1,)
            wired = wired_of(prime, low, start)
            told = trace_parts(prime, *wired)
            self.check_kinds(prime, told)
            self.assertEqual([one for one, _ in told], [low])
            self.assertEqual(slow_trace_row(prime, told, size + 5), slow_run(prime, *wired, size + 5))
            self.assertRaises(BadParts, trace_row, prime, told, 5)

    def test_too_many(self):
        rng = random.Random(6)
        for prime in PRIMES:
            most = GREATEST[prime]
            for size in (most + 1, 59, 60):
                for taps, start in (((0,) * size, (0,) * size), ((0,) * (size - 1) + (1,), (0,) * (size - 1) + (1,)),
                                    ((1,) * size, (1,) * size), ((0,) * size, (0,) * (size - 1) + (1,)),
                                    random_wired(rng, prime, size)):
                    # Ahead of the error for a factor that stands twice or is x.
                    self.assertEqual(most_of(self, trace_parts, prime, taps, start), 10 ** 12)
            self.assertRaises(NotSingle, trace_parts, prime, (0,) * most, (0,) * (most - 1) + (1,))
            self.assertEqual(trace_parts(prime, (1,) * most, (0,) * most), ())
            told = trace_parts(prime, (0,) * (most - 2) + (0, 1), (1,) + (1,) * (most - 1))
            self.assertEqual(told, (((prime - 1, 1), ONE),))

    def test_wrong(self):
        for prime in PRIMES:
            wrong = [(BadPrime, WRONG_PRIMES), (BadTaps, wrong_taps(prime)), (BadStart, wrong_starts(prime, (1, 1)))]
            check_wrong(self, trace_parts, (prime, (1, 1), (0, 0)), wrong)


# Spectra.

def degree_of(prime, size):
    """The least n with prime ** n - 1 divisible by a size, None if the power is more than 2000 then."""
    for degree in range(1, 12):
        if prime ** degree <= 2000 and (prime ** degree - 1) % size == 0:
            return degree
    return None


FITTING = {prime: [size for size in range(1, 61) if degree_of(prime, size)] for prime in PRIMES}


def slow_root(prime, size):
    degree = degree_of(prime, size)
    low = min(primitives(prime, degree))
    return low, element_power(prime, low, (0, 1) if degree > 1 else cut([-low[0] % prime]), (prime ** degree - 1) // size)


def slow_entries(prime, block, low, root):
    powers = [ONE]
    while len(powers) < len(block):
        powers.append(field_product(prime, low, powers[-1], root))
    found = []
    for i in range(len(block)):
        total = ()
        for j, number in enumerate(block):
            power = powers[i * j % len(block)]
            total = slow_sum(prime, total, tuple(number * part % prime for part in power) if number else ())
        found.append(total)
    return tuple(found)


def some_blocks(rng, prime, size):
    ones = (0,) * (size - 1) + (1,)
    return [random_row(rng, prime, size), random_row(rng, prime, size), (0,) * size, (prime - 1,) * size, ones, ones[::-1]]


class Spectra(unittest.TestCase):

    def check(self, prime, block, low, root):
        told = wide_spectrum(prime, block)
        self.assertEqual((type(told), len(told)), (tuple, 2))
        self.assertEqual(told[0], low)
        entries = told[1]
        self.assertEqual((type(entries), entries), (tuple, slow_entries(prime, block, low, root)))
        for entry in (*entries, low):
            self.assertIs(type(entry), tuple)
            self.assertTrue(all(type(number) is int and 0 <= number < prime for number in entry))
        back = wide_block(prime, entries)
        self.assertEqual((type(back), back), (tuple, block))
        self.assertTrue(all(type(number) is int for number in back))

    def test_roots(self):
        for prime in PRIMES:
            for size in FITTING[prime]:
                low, root = slow_root(prime, size)
                powers = [ONE]
                while len(powers) < 2 or powers[-1] != ONE:
                    powers.append(field_product(prime, low, powers[-1], root))
                self.assertEqual(len(powers) - 1, size)

    def test_all_small_blocks(self):
        for prime in PRIMES:
            for size in range(1, {2: 9, 3: 5, 5: 4, 7: 3}[prime] + 1):
                if size in FITTING[prime]:
                    low, root = slow_root(prime, size)
                    for block in all_rows(prime, size)[::1 if prime ** size < 130 else 5]:
                        self.check(prime, block, low, root)

    def test_all_sizes(self):
        rng = random.Random(7)
        for prime in PRIMES:
            for size in FITTING[prime]:
                low, root = slow_root(prime, size)
                for block in some_blocks(rng, prime, size)[:1 if size > 20 else 6]:
                    self.check(prime, block, low, root)

    def test_the_length_is_the_number_of_entries(self):
        rng = random.Random(8)
        for prime in PRIMES:
            for size in FITTING[prime]:
                for block in some_blocks(rng, prime, size)[::2]:
                    _, entries = wide_spectrum(prime, block)
                    self.assertEqual(len([entry for entry in entries if entry]), len(block_taps(prime, block)))

    def test_in_the_prime_field(self):
        # Where both are of one root, the entries are the numbers of point 15.
        for prime in PRIMES:
            low = min(primitives(prime, 1))
            for size in range(1, prime):
                if (prime - 1) % size == 0:
                    number = element_power(prime, low, cut([-low[0] % prime]), (prime - 1) // size)[0]
                    powers = {k: [k ** exponent % prime for exponent in range(1, size + 1)] for k in range(1, prime)}
                    least = min(k for k in powers if powers[k][-1] == 1 and powers[k].count(1) == 1)
                    for block in all_rows(prime, size)[::7]:
                        wanted = tuple((told,) if told else () for told in spectrum(prime, block))
                        if number == least:
                            self.assertEqual(wide_spectrum(prime, block), (low, wanted))

    def test_wrong_blocks(self):
        for prime in PRIMES:
            for size in range(1, 62):
                if size in FITTING[prime]:
                    self.assertIsNone(error_of(wide_spectrum, (prime, (1,) * size)))
                else:
                    self.assertIs(error_of(wide_spectrum, (prime, (0,) * size)), BadBlock)
                    self.assertIs(error_of(wide_block, (prime, ((),) * size)), BadSpectrum)
            self.assertEqual([size for size in FITTING[prime] if size % prime == 0], [])
            values = wrong_blocks(prime) + [(0,) * 61, (1,) * 61, (1,) * prime, (0,) * prime ** 2]
            check_wrong(self, wide_spectrum, (prime, (1,)), [(BadPrime, WRONG_PRIMES), (BadBlock, values)])
        # The power of the prime just within 2000 and beyond it: 1024 and 4096 modulo 2.
        self.assertEqual([degree_of(2, size) for size in (11, 33, 13, 35, 59)], [10, 10, None, None, None])
        # 729 and 2187 modulo 3, 625 and 3125 modulo 5, 343 and 2401 modulo 7.
        self.assertEqual([degree_of(3, 7), degree_of(5, 13), degree_of(7, 9)], [6, 4, 3])
        self.assertEqual([degree_of(3, 32), degree_of(5, 11), degree_of(7, 5), degree_of(7, 43)], [None, None, None, None])

    def test_wrong_entries(self):
        rng = random.Random(9)
        for prime in PRIMES:
            for size in [size for size in FITTING[prime] if degree_of(prime, size) > 1][:4]:
                block = random_row(rng, prime, size)
                low, entries = wide_spectrum(prime, block)
                for at in sorted({0, 1, size // 2, size - 1}):
                    for value in wrong_elements(prime, low)[at % 2::5]:
                        self.assertRaises(BadSpectrum, wide_block, prime, entries[:at] + (value,) + entries[at + 1:])
                    for change in (ONE, (0, 1), (1, 1)):
                        told = entries[:at] + (slow_sum(prime, entries[at], change),) + entries[at + 1:]
                        if self.hang_together(prime, low, told):
                            self.assertEqual(wide_spectrum(prime, wide_block(prime, told))[1], told)
                        else:
                            self.assertRaises(BadSpectrum, wide_block, prime, told)
                self.assertRaises(BadSpectrum, wide_block, prime, entries + ((),) * 61)

    def hang_together(self, prime, low, entries):
        """Whether each entry, to the power of the prime, is the one at the index that is the prime times its own."""
        powers = [field_power(prime, low, entry, prime) for entry in entries]
        return all(power == entries[at * prime % len(entries)] for at, power in enumerate(powers))

    def test_which_entries_are_of_blocks(self):
        # All tuples of entries of small sizes: those of blocks, and no others.
        for prime, size in ((2, 1), (2, 3), (3, 1), (3, 2), (5, 1), (5, 2), (7, 2), (3, 4)):
            low, root = slow_root(prime, size)
            of_blocks = {slow_entries(prime, block, low, root): block for block in all_rows(prime, size)}
            elements = field_elements(prime, low)
            many = len(elements) ** size
            for number in range(0, many, 1 if many < 3000 else 7):
                told = []
                for _ in range(size):
                    number, figure = divmod(number, len(elements))
                    told.append(elements[figure])
                told = tuple(told)
                if told in of_blocks:
                    self.assertEqual(wide_block(prime, told), of_blocks[told])
                else:
                    self.assertRaises(BadSpectrum, wide_block, prime, told)

    def test_other_values(self):
        values = [0, 1, True, False, None, "", "ab", [], [()], [ONE], {}, {0: ()}, (), ((),) * 61, (0,), (1,), ("1",), (None,),
                  (True,), ((True,),), (("1",),), ((0,),), ([1],), ([],), ({},), ((None,),), (((),),)]
        for prime in PRIMES:
            more = [((prime,),), ((-1,),), ((0, 1),), ((1, 1),), ((),) * prime, ((), 0)]
            check_wrong(self, wide_block, (prime, (ONE,)), [(BadPrime, WRONG_PRIMES), (BadSpectrum, values + more)])


class Rings(unittest.TestCase):

    def test_all(self):
        for prime in PRIMES:
            for size in range(1, 61):
                if size % prime == 0:
                    self.assertRaises(BadBlock, turned_rings, prime, size)
                    continue
                told = turned_rings(prime, size)
                self.assertIs(type(told), list)
                seen = []
                for ring in told:
                    self.assertIs(type(ring), tuple)
                    self.assertEqual(ring[0], min(ring))
                    for at, index in enumerate(ring):
                        self.assertEqual(index, ring[0] * prime ** at % size)
                    # The next one stands in the tuple already.
                    self.assertEqual(ring[0] * prime ** len(ring) % size, ring[0])
                    seen.extend(ring)
                self.assertEqual(sorted(seen), list(range(size)))
                self.assertEqual([ring[0] for ring in told], sorted(ring[0] for ring in told))

    def test_edges(self):
        for prime in PRIMES:
            self.assertEqual(turned_rings(prime, 1), [(0,)])
        # Sizes that blocks may not have here.
        self.assertEqual([len(ring) for ring in turned_rings(2, 59)], [1, 58])
        self.assertEqual(turned_rings(7, 60)[1], (1, 7, 49, 43))
        turned_rings(2, 3).append(None)
        self.assertEqual(turned_rings(2, 3), [(0,), (1, 2)])

    def test_wrong(self):
        for prime in PRIMES:
            wrong = [(BadPrime, WRONG_PRIMES), (BadNumber, wrong_integers(1, 60))]
            check_wrong(self, turned_rings, (prime, 1), wrong)


if __name__ == "__main__":
    unittest.main()
