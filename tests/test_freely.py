"""Points 23 to 26: free registers."""

import random
import unittest
from itertools import product

from taprows.errors import (BadNumber, BadPrime, BadRow, BadSize, BadStart, BadTable, BadTerms, NotOneToOne)
from taprows.freely import (clash, free_bound, free_cycles, free_length, free_run, joined_table, table_of, taps_of,
                            terms_of)
from tests.support import (GREATEST_SIZES, PRIMES, WRONG_PRIMES, all_rows, check_wrong, error_of, random_row, random_table,
                           random_turned_table, slow_cycles, slow_run, table_step, wrong_integers, wrong_rows, wrong_sizes,
                           wrong_states, wrong_tables)


def tables(seed, most=1000):
    """Tables of all sizes modulo each prime: all small ones, and random ones with a clash and without one."""
    rng = random.Random(seed)
    for prime in PRIMES:
        for size in range(1, GREATEST_SIZES[prime] + 1):
            many = prime ** size
            if prime ** many <= most:
                yield from ((prime, size, table) for table in all_rows(prime, many))
                continue
            for _ in range(3):
                yield prime, size, random_table(rng, prime, size)
                table = random_turned_table(rng, prime, size)
                yield prime, size, table
                at = rng.randrange(many)
                yield prime, size, table[:at] + ((table[at] + 1) % prime,) + table[at + 1:]


def slow_clash(prime, size, table):
    step = table_step(prime, size, table)
    states = all_rows(prime, size)
    behind = [step(state) for state in states]
    pairs = [(states[i], states[j]) for i in range(len(states)) for j in range(i + 1, len(states)) if behind[i] == behind[j]]
    return min(pairs, default=None)


def has_clash(prime, size, table):
    step = table_step(prime, size, table)
    states = all_rows(prime, size)
    return len({step(state) for state in states}) < len(states)


def linear_table(prime, size, taps):
    return tuple(sum(tap * state[-1 - at] for at, tap in enumerate(taps)) % prime for state in all_rows(prime, size))


class Runs(unittest.TestCase):

    def test_by_walking(self):
        rng = random.Random(1)
        for prime, size, table in tables(1):
            step = table_step(prime, size, table)
            start = random_row(rng, prime, size)
            row, state = list(start), start
            while len(row) < 60:
                state = step(state)
                row.append(state[-1])
            for count in (0, 1, size - 1, size, size + 1, 60):
                told = free_run(prime, size, table, start, count)
                self.assertEqual(told, tuple(row[:count]))
                self.assertIs(type(told), tuple)

    def test_greatest_count(self):
        rng = random.Random(2)
        for prime in PRIMES:
            size = GREATEST_SIZES[prime]
            taps, start = random_row(rng, prime, size), random_row(rng, prime, size)
            told = free_run(prime, size, linear_table(prime, size, taps), start, 400)
            self.assertEqual(told, slow_run(prime, taps, start, 400))

    def test_wrong(self):
        for prime in PRIMES:
            for size in (1, 2, GREATEST_SIZES[prime]):
                wrong = [(BadPrime, WRONG_PRIMES), (BadSize, wrong_sizes(prime)), (BadTable, wrong_tables(prime, size)),
                         (BadStart, wrong_states(prime, size)), (BadNumber, wrong_integers(0, 400))]
                if size > 2:
                    wrong = [(error, values[::4]) for error, values in wrong]
                check_wrong(self, free_run, (prime, size, (1,) * prime ** size, (0,) * size, 3), wrong)

    def test_sizes(self):
        for prime in PRIMES:
            for size in range(1, 12):
                told = error_of(free_run, (prime, size, (0,) * prime ** min(size, 9), (0,) * size, 3))
                self.assertIs(told, None if size <= GREATEST_SIZES[prime] else BadSize)


class Clashes(unittest.TestCase):

    def test_by_comparing_all_states(self):
        for prime, size, table in tables(3):
            self.assertEqual(clash(prime, size, table), slow_clash(prime, size, table))

    def test_edges(self):
        for prime in PRIMES:
            for size in range(1, GREATEST_SIZES[prime] + 1):
                zeros = (0,) * size
                self.assertEqual(clash(prime, size, (0,) * prime ** size), (zeros, (1,) + zeros[1:]))
            # Of two clashes of the least state the one with the lesser other state counts.
            if prime > 2:
                table = (0,) * prime
                self.assertEqual(clash(prime, 1, table), ((0,), (1,)))
                table = tuple(range(1, prime)) + (prime - 1,)
                self.assertEqual(clash(prime, 1, table), ((prime - 2,), (prime - 1,)))

    def test_wrong(self):
        for prime in PRIMES:
            for function in (clash, taps_of, free_cycles):
                for size in (1, 2, GREATEST_SIZES[prime]):
                    wrong = [(BadPrime, WRONG_PRIMES), (BadSize, wrong_sizes(prime)), (BadTable, wrong_tables(prime, size))]
                    good = (prime, size, linear_table(prime, size, (0,) * (size - 1) + (1,)))
                    check_wrong(self, function, good, wrong)


class Taps(unittest.TestCase):

    def test_linear_tables(self):
        rng = random.Random(4)
        for prime in PRIMES:
            for size in range(1, GREATEST_SIZES[prime] + 1):
                rows = all_rows(prime, size)
                for taps in rows if len(rows) < 40 else rng.sample(rows, 12):
                    table = linear_table(prime, size, taps)
                    self.assertEqual(taps_of(prime, size, table), taps)
                    for at in {0, 1, len(table) - 1, rng.randrange(len(table))}:
                        other = table[:at] + ((table[at] + 1) % prime,) + table[at + 1:]
                        if prime ** size > 2 or at == 0:
                            self.assertIsNone(taps_of(prime, size, other))

    def test_all_small_tables(self):
        for prime, size in ((2, 1), (2, 2), (2, 3), (3, 1), (5, 1)):
            linear = {linear_table(prime, size, taps): taps for taps in all_rows(prime, size)}
            for table in all_rows(prime, prime ** size):
                self.assertEqual(taps_of(prime, size, table), linear.get(table))


class Cycles(unittest.TestCase):

    def test_by_walking(self):
        for prime, size, table in tables(5):
            if has_clash(prime, size, table):
                self.assertRaises(NotOneToOne, free_cycles, prime, size, table)
                continue
            found = slow_cycles(table_step(prime, size, table), all_rows(prime, size))
            told = free_cycles(prime, size, table)
            self.assertEqual(told, sorted((min(cycle), len(cycle)) for cycle in found))
            self.assertIs(type(told), list)
            self.assertEqual({type(pair) for pair in told}, {tuple})

    def test_new_lists(self):
        found = free_cycles(2, 1, (1, 0))
        found.append(None)
        self.assertEqual(free_cycles(2, 1, (1, 0)), [((0,), 2)])

    def test_not_one_to_one_is_behind_the_others(self):
        for prime in PRIMES:
            many = prime ** 2
            self.assertRaises(NotOneToOne, free_cycles, prime, 2, (0,) * many)
            self.assertRaises(BadTable, free_cycles, prime, 2, (0,) * (many - 1))
            self.assertRaises(BadSize, free_cycles, prime, 0, (0,) * many)
            self.assertRaises(BadPrime, free_cycles, 4, 2, (0,) * many)


class Joined(unittest.TestCase):

    def turned_tables(self, size):
        """All tables modulo 2 without clash of a size: those whose second half is the first one changed."""
        for half in product((0, 1), repeat=2 ** (size - 1)):
            yield half + tuple(1 - number for number in half)

    def many(self, size, table):
        return len(slow_cycles(table_step(2, size, table), all_rows(2, size)))

    def check(self, size, table, fewest=None):
        told = joined_table(size, table)
        self.assertEqual((type(told), len(told)), (tuple, len(table)))
        self.assertEqual({type(number) for number in told} <= {int}, True)
        self.assertFalse(has_clash(2, size, told))
        self.assertEqual(self.many(size, told), 1)
        differ = sum(one != other for one, other in zip(table, told))
        # Each pair of entries that changes takes away one cycle at most.
        self.assertEqual(differ, 2 * (self.many(size, table) - 1))
        if fewest is not None:
            self.assertEqual(differ, fewest)

    def test_all_tables_of_small_sizes(self):
        for size in (1, 2, 3, 4):
            ones = [table for table in self.turned_tables(size) if self.many(size, table) == 1]
            for table in self.turned_tables(size):
                fewest = min(sum(one != other for one, other in zip(table, told)) for told in ones)
                self.check(size, table, fewest)

    def test_larger_sizes(self):
        rng = random.Random(6)
        for size in range(5, 10):
            turn = tuple(state[0] for state in all_rows(2, size))
            for table in [random_turned_table(rng, 2, size) for _ in range(3)] + [turn, tuple(1 - n for n in turn)]:
                self.check(size, table)

    def test_parity_of_cycles(self):
        rng = random.Random(7)
        for size in range(3, 8):
            table = random_turned_table(rng, 2, size)
            self.assertIs(len(free_cycles(2, size, table)) % 2 == 0, sum(table[:len(table) // 2]) % 2 == 0)

    def test_wrong(self):
        for size in (1, 2, 3, 9):
            wrong = [(BadSize, wrong_sizes(2)), (BadTable, wrong_tables(2, size))]
            check_wrong(self, joined_table, (size, linear_table(2, size, (0,) * (size - 1) + (1,))), wrong)
            for table in ((0,) * 2 ** size, (0,) + (1,) * (2 ** size - 1)):
                if size > 1 or table == (0, 0):
                    self.assertRaises(NotOneToOne, joined_table, size, table)
            self.assertRaises(BadSize, joined_table, 10, (0,) * 2 ** size)


def slow_table(size, terms):
    return tuple(sum(all(state[at] for at in term) for term in terms) % 2 for state in all_rows(2, size))


def all_terms(size):
    return sorted(tuple(at for at in range(size) if state[at]) for state in all_rows(2, size))


class Terms(unittest.TestCase):

    def test_by_summing(self):
        for prime, size, table in tables(8):
            if prime == 2:
                told = terms_of(size, table)
                self.assertIs(type(told), list)
                self.assertEqual(told, sorted(set(told)))
                self.assertTrue(set(told) <= set(all_terms(size)))
                self.assertEqual(slow_table(size, told), table)
                self.assertEqual(table_of(size, tuple(told)), table)

    def test_sets_of_terms(self):
        rng = random.Random(9)
        for size in range(1, 10):
            every = all_terms(size)
            sets = [[], [()], every, every[1:]] + [rng.sample(every, rng.randrange(len(every) + 1)) for _ in range(5)]
            if size < 3:
                sets = [[term for term, mark in zip(every, marks) if mark] for marks in all_rows(2, len(every))]
            for terms in sets:
                terms = tuple(sorted(terms))
                told = table_of(size, terms)
                self.assertEqual((type(told), told), (tuple, slow_table(size, terms)))
                self.assertEqual(terms_of(size, told), list(terms))

    def test_edges(self):
        for size in range(1, 10):
            many = 2 ** size
            self.assertEqual(terms_of(size, (0,) * many), [])
            self.assertEqual(table_of(size, ()), (0,) * many)
            self.assertEqual(terms_of(size, (1,) * many), [()])
            self.assertEqual(table_of(size, ((),)), (1,) * many)
            self.assertEqual(terms_of(size, (0,) * (many - 1) + (1,)), [tuple(range(size))])
            # The first index is that of the first number of a state.
            self.assertEqual(table_of(size, ((0,),)), (0,) * (many // 2) + (1,) * (many // 2))
            self.assertEqual(table_of(size, ((size - 1,),)), (0, 1) * (many // 2))
        found = terms_of(1, (0, 1))
        found.append(None)
        self.assertEqual(terms_of(1, (0, 1)), [(0,)])

    def test_wrong(self):
        for size in (1, 2, 9):
            check_wrong(self, terms_of, (size, (0,) * 2 ** size), [(BadSize, wrong_sizes(2)), (BadTable, wrong_tables(2, size))])
            values = [0, 1, "", "1", True, False, None, [], [()], [(0,)], {}, {(): 1}, (0,), (None,), ("",), ("0",), (True,),
                      ([],), ([0],), ({},), ((size,),), ((-1,),), ((True,),), ((False,),), ((0, 0),), (("0",),), ((None,),),
                      (((),),), ((10 ** 30,),), ((), ()), ((0,), (0,)), ((0,), ()), ((), (0,), ()), ((0,), None), ((), 1),
                      ((0, size),), (tuple(range(size + 1)),), ((), (0,), (size,))]
            if size > 1:
                values += [((1, 0),), ((1,), (0,)), ((0, 1), (0,)), ((), (0,), (0, 1), (0, 1)), ((1,), (0, 1))]
            check_wrong(self, table_of, (size, ()), [(BadSize, wrong_sizes(2)), (BadTerms, values)])


class Lengths(unittest.TestCase):

    def slow_is_made(self, row, size):
        pairs = [(i, j) for i in range(size, len(row)) for j in range(i + 1, len(row))]
        return all(row[i - size:i] != row[j - size:j] or row[i] == row[j] for i, j in pairs)

    def check(self, prime, row):
        size = 0
        while not self.slow_is_made(row, size):
            size += 1
        self.assertEqual(free_length(prime, row), size)
        wanted = None
        if size:
            m = size - 1
            pairs = [(i, j) for i in range(m, len(row)) for j in range(i + 1, len(row))]
            wanted = min((i, j) for i, j in pairs if row[i] != row[j] and row[i - m:i] == row[j - m:j])
        told = free_bound(prime, row)
        self.assertEqual(told, wanted)
        self.assertTrue(told is None or type(told) is tuple)
        return size

    def test_small_rows(self):
        for prime, most in ((2, 9), (3, 5), (5, 4), (7, 3)):
            for size in range(most + 1):
                for row in all_rows(prime, size):
                    self.check(prime, row)

    def test_rows_of_free_registers(self):
        rng = random.Random(10)
        for prime in PRIMES:
            for size in range(1, 4):
                for _ in range(5):
                    table = random_table(rng, prime, size)
                    row = free_run(prime, size, table, random_row(rng, prime, size), 40)
                    self.assertLessEqual(self.check(prime, row), size)
            self.check(prime, random_row(rng, prime, 60))

    def test_all_small_tables(self):
        # The least size of a table that makes the row, by trying all tables.
        for row in all_rows(2, 6):
            size = free_length(2, row)
            for other in range(4):
                rows = [row[:other] + free_run(2, other, table, row[:other], 6)[other:] for table in all_rows(2, 2 ** other)
                        ] if other else [(n,) * 6 for n in (0, 1)]
                self.assertIs(row in rows, size <= other)

    def test_edges(self):
        for prime in PRIMES:
            for row in ((), (0,), (prime - 1,), (1,) * 400, (0,) * 400):
                self.assertEqual((free_length(prime, row), free_bound(prime, row)), (0, None))
            self.assertEqual((free_length(prime, (0, 1)), free_bound(prime, (0, 1))), (1, (0, 1)))
            row = (0,) * 399 + (1,)
            self.assertEqual((free_length(prime, row), free_bound(prime, row)), (399, (398, 399)))
            row = (0, 1) * 200
            self.assertEqual((free_length(prime, row), free_bound(prime, row)), (1, (0, 1)))

    def test_greatest(self):
        rng = random.Random(11)
        for prime in PRIMES:
            row = random_row(rng, prime, 400)
            size = free_length(prime, row)
            i, j = free_bound(prime, row)
            self.assertTrue(self.slow_is_made(row, size))
            self.assertEqual(row[i - size + 1:i], row[j - size + 1:j])
            self.assertTrue(size - 1 <= i < j and row[i] != row[j])

    def test_wrong(self):
        for prime in PRIMES:
            for function in (free_length, free_bound):
                wrong = [(BadPrime, WRONG_PRIMES), (BadRow, wrong_rows(prime))]
                check_wrong(self, function, (prime, (0, 1)), wrong)
                check_wrong(self, function, (prime, (0,) * 400), wrong)


if __name__ == "__main__":
    unittest.main()
