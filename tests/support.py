"""Slow ways of computing what the package computes, and values that are not let."""

from copy import deepcopy
from functools import lru_cache
from itertools import product

PRIMES = (2, 3, 5, 7)


# Values of all kinds that are wrong for an argument.

OTHER_KINDS = ["1", "", None, True, False, (), (1,), (2,), [], [1], [2], {}, {1: 1}, {2: 1}]
WRONG_PRIMES = [-2, 0, 1, 4, 6, 8, 9, 11, 10 ** 20] + OTHER_KINDS


def wrong_integers(least, most):
    return [least - 1, most + 1, -10 ** 30, 10 ** 30] + OTHER_KINDS


def wrong_tuples(prime):
    """Values that are no tuples of numbers."""
    values = [0, 1, -1, "", "0", "10", True, False, None, [], [0], [1], [1, 1], {}, {0: 1}, {1: 1}]
    things = [prime, -1, 10 ** 30, "0", "", True, False, None, (), (0,), [0], {0: 0}]
    return values + [(thing,) for thing in things] + [(1, thing, 1) for thing in things]


def wrong_polynomials(prime):
    return wrong_tuples(prime) + [(0,), (1, 0), (0, 0), (1,) * 202, (0,) * 201, (0,) * 500 + (1,)]


def wrong_rows(prime):
    return wrong_tuples(prime) + [(0,) * 401, (1,) * 401]


def wrong_blocks(prime):
    return wrong_rows(prime) + [()]


def wrong_taps(prime):
    return wrong_tuples(prime) + [(0,) * 61, (1,) * 61]


def wrong_starts(prime, taps):
    size = len(taps)
    sizes = [(0,) * (size + 1), (1,) * (size + 1), (0,) * (size + 60)] + [(1,) * n for n in range(size)]
    return wrong_tuples(prime) + sizes


WRONG_LENGTHS = [0, 1, "", "1", True, None, [], [0], {}, {0: 0}, (0,) * 401, (-1,), (401,), (0, 401), (True,), (False,),
                 ("0",), (None,), ((0,),), ([0],), ({},), (0, 2, 2, True)]
WRONG_TEXTS = [0, 1, True, False, None, (), ("x",), [], ["x"], {}, {"x": 1}]


def error_of(function, arguments):
    """The class of the error that a call raises, None if it raises none."""
    try:
        function(*arguments)
    except Exception as error:
        return error.__class__
    return None


def check_wrong(case, function, good, wrong):
    """Check the errors of a call with one or two wrong arguments.

    good are arguments that are let; wrong has a pair (error class, values) for each,
    None for an argument that may be anything.
    """
    case.assertIsNone(error_of(function, good))
    for at, told in enumerate(wrong):
        if told is None:
            continue
        error, values = told
        for value in values:
            arguments = list(good)
            arguments[at] = value
            before = deepcopy(arguments)
            case.assertIs(error_of(function, arguments), error, (function.__name__, arguments))
            case.assertEqual(before, arguments)
            for behind in range(at + 1, len(good)):
                for other in wrong[behind][1] if wrong[behind] else []:
                    arguments[behind] = other
                    case.assertIs(error_of(function, arguments), error, (function.__name__, arguments))
                arguments[behind] = good[behind]


# Tuples and polynomials.

def all_rows(prime, size):
    return list(product(range(prime), repeat=size))


def all_polynomials(prime, most):
    """All polynomials of at most so many numbers."""
    return [a for size in range(most + 1) for a in all_rows(prime, size) if not a or a[-1] != 0]


def random_row(rng, prime, size):
    return tuple(rng.randrange(prime) for _ in range(size))


def random_polynomial(rng, prime, size):
    """A polynomial of just so many numbers."""
    return random_row(rng, prime, size - 1) + (rng.randrange(1, prime),) if size else ()


def cut(numbers):
    numbers = list(numbers)
    while numbers and numbers[-1] == 0:
        numbers.pop()
    return tuple(numbers)


def slow_sum(prime, a, b):
    return cut([((a[k] if k < len(a) else 0) + (b[k] if k < len(b) else 0)) % prime for k in range(len(a) + len(b))])


def slow_product(prime, a, b):
    found = {}
    for i in range(len(a)):
        for j in range(len(b)):
            found[i + j] = found.get(i + j, 0) + a[i] * b[j]
    return cut([found[k] % prime for k in sorted(found)])


def slow_divisors(prime, a):
    """The divisors of a polynomial other than zero that have the leading number 1, by trying all products."""
    parts = [b for b in all_polynomials(prime, len(a)) if b]
    return {b for b in parts for c in parts if b[-1] == 1 and slow_product(prime, b, c) == a}


# Rows and registers.

def slow_run(prime, taps, start, count):
    row = list(start)
    while len(row) < count:
        row.append(sum(taps[k] * row[len(row) - 1 - k] for k in range(len(taps))) % prime)
    return tuple(row[:count])


def slow_makes(prime, taps, row):
    size = len(taps)
    return all(row[n] == sum(taps[k] * row[n - 1 - k] for k in range(size)) % prime for n in range(size, len(row)))


def slow_all_taps(prime, row, length):
    """The taps of all registers of a length that make a row, by trying."""
    return [taps for taps in all_rows(prime, length) if slow_makes(prime, taps, row)]


def slow_least(prime, row):
    """The least length of a register that makes a row, by trying."""
    length = 0
    while not slow_all_taps(prime, row, length):
        length += 1
    return length


def solvable(prime, rows):
    """Whether there are numbers whose products with all but the last number of each row add up to the last one."""
    rows = [list(row) for row in rows]
    width = len(rows[0]) - 1 if rows else 0
    for column in range(width):
        lead = next((row for row in rows if row[column]), None)
        if lead is None:
            continue
        rows = [row for row in rows if row is not lead]
        turn = next(k for k in range(1, prime) if k * lead[column] % prime == 1)
        for row in rows:
            factor = row[column] * turn
            for at in range(column, width + 1):
                row[at] = (row[at] - factor * lead[at]) % prime
    return not any(row[width] for row in rows)


def eliminated_least(prime, row):
    """The least length of a register that makes a row, by elimination."""
    length = 0
    while not solvable(prime, [row[n - length:n][::-1] + (row[n],) for n in range(length, len(row))]):
        length += 1
    return length


def weights_show(prime, row, length, weights):
    """Whether a tuple of numbers is weights that show that no register of a length makes a row (point 7)."""
    if len(weights) != len(row) - length:
        return False
    sums = [sum(weights[n - length] * row[n - d] for n in range(length, len(row))) % prime for d in range(length + 1)]
    return sums[0] != 0 and sums[1:] == [0] * length


# Values that are no registers, and slow ways for what states and joined rows do.

def wrong_pairs(prime):
    """Values that are no pairs of taps and a start."""
    values = [0, 1, "", "ab", "1", None, True, False, (), [], {}, {0: (), 1: ()}, [(), ()], [(1,), (1,)], ((),), ((1,),),
              ((), (), ()), ((1,), (1,), 1), (1, 1), ("1", "1"), ("", ""), (None, None), ([], []), ({}, {}), ([1], [1])]
    starts = [((1,), start) for start in wrong_starts(prime, (1,))]
    return values + [(taps, (1,)) for taps in wrong_taps(prime)] + starts + [((), (0,)), ((1,) * 60, (1,) * 59)]


def random_wired(rng, prime, size):
    return random_row(rng, prime, size), random_row(rng, prime, size)


def most_of(case, function, *arguments):
    """The number of the TooMany that a call raises."""
    try:
        function(*arguments)
    except ValueError as error:
        case.assertEqual(error.__class__.__name__, "TooMany")
        return error.most
    case.fail(f"no error: {function.__name__}{arguments}")


def slow_rest(prime, a, b):
    """The rest of a polynomial by another one, term by term."""
    a = list(a)
    turn = next(k for k in range(1, prime) if k * b[-1] % prime == 1)
    while len(a) >= len(b):
        factor = a[-1] * turn
        for k in range(len(b)):
            a[len(a) - len(b) + k] = (a[len(a) - len(b) + k] - factor * b[k]) % prime
        a.pop()
    return cut(a)


def slow_period(step, state):
    """The pair (ahead, period) of the states behind a state, by walking."""
    seen = {}
    while state not in seen:
        seen[state] = len(seen)
        state = step(state)
    return seen[state], len(seen) - seen[state]


def slow_cycles(step, states):
    """The list of the cycles, each as the list of its states; each state has to stand in one."""
    found = []
    seen = set()
    for state in states:
        if state in seen:
            continue
        cycle = []
        while state not in seen:
            seen.add(state)
            cycle.append(state)
            state = step(state)
        assert state == cycle[0]
        found.append(cycle)
    return found


def row_repeats(row):
    """The pair (ahead, period) of a long row: the least period of its end, and the least index from which it holds.

    The row has to have many times as many numbers as both.
    """
    for period in range(1, len(row) // 4):
        ahead = len(row) - period
        while ahead > 0 and row[ahead - 1] == row[ahead - 1 + period]:
            ahead -= 1
        if ahead < len(row) // 2:
            return ahead, period
    raise AssertionError("no period")


# Values that are not let for free registers, bits and fractions.

GREATEST_SIZES = {2: 9, 3: 5, 5: 3, 7: 3}
WRONG_BITS = wrong_tuples(2) + [(), (0,) * 401, (1,) * 401, (0, 1) * 300, (0,) * 399 + (2,)]


def wrong_sizes(prime):
    return wrong_integers(1, GREATEST_SIZES[prime]) + [10, 512]


def wrong_tables(prime, size):
    many = prime ** size
    return wrong_tuples(prime) + [(0,) * n for n in (many - 1, many + 1, 2 * many, many * prime, 513)]


def wrong_states(prime, size):
    return wrong_tuples(prime) + [(0,) * n for n in range(size)] + [(0,) * (size + 1), (1,) * (size + 60)]


def random_table(rng, prime, size):
    return random_row(rng, prime, prime ** size)


def random_turned_table(rng, prime, size):
    """A table without clash: for the states with one tail the numbers behind them are all different."""
    tails = prime ** (size - 1)
    columns = [rng.sample(range(prime), prime) for _ in range(tails)]
    return tuple(columns[tail][first] for first in range(prime) for tail in range(tails))


def table_step(prime, size, table):
    """The function from a state to the one behind it."""
    entries = dict(zip(all_rows(prime, size), table))
    return lambda state: state[1:] + (entries[state],)


# Figures and fractions.

PART = 10 ** 60


def value_of(prime, row):
    return sum(number * prime ** at for at, number in enumerate(row))


def figures(prime, number, count):
    """The figures of the integer from 0 on that is the number up to a multiple of the power."""
    number %= prime ** count
    row = []
    for _ in range(count):
        number, figure = divmod(number, prime)
        row.append(figure)
    return tuple(row)


def slow_row(prime, above, low, count):
    """The row of a fraction, by the inverse of low."""
    return figures(prime, above * pow(low, -1, prime ** count), count)


def coprime(prime, numbers):
    return [number for number in numbers if number % prime]


def wrong_fractions(prime):
    values = [0, 1, "", "1/3", True, False, None, (), (1,), (1, 1, 1), [], [1, 1], {}, {1: 1, 0: 1}, "11", ((), ()), ((1, 1),)]
    parts = [True, False, None, "", "1", (), (1,), [], [1], {}, {1: 1}]
    values += [(part, 1) for part in parts] + [(1, part) for part in parts] + [(None, None), (1, True), (True, 1)]
    values += [(PART + 1, 1), (-PART - 1, 1), (1, 0), (0, 0), (1, -1), (1, PART + 1), (1, -PART), (1, prime), (0, prime)]
    return values + [(prime, prime), (1, prime ** 20), (1, prime * (PART // prime)), (10 ** 90, 1), (1, 10 ** 90)]


# Fields of a prime's power.

@lru_cache(None)
def slow_whole(prime, degree):
    """The ascending list of the polynomials of a degree with the leading number 1 that cannot be split, by all products."""
    parts = [[a + (1,) for a in all_rows(prime, size)] for size in range(degree)]
    split = {slow_product(prime, a, b) for size in range(1, degree // 2 + 1) for a in parts[size] for b in parts[degree - size]}
    return [a + (1,) for a in all_rows(prime, degree) if a + (1,) not in split]


def field_product(prime, low, a, b):
    return slow_rest(prime, slow_product(prime, a, b), low)


def field_power(prime, low, a, exponent):
    """The power of an element with an exponent from 0 on, factor by factor."""
    power = (1,)
    for _ in range(exponent):
        power = field_product(prime, low, power, a)
    return power


def images(prime, low, a):
    """The powers with the exponents 1, prime, prime ** 2, .., as many as the degree."""
    found = [a]
    while len(found) < len(low) - 1:
        found.append(field_power(prime, low, found[-1], prime))
    return found


def slow_trace(prime, low, a):
    """The sum of the images, a number."""
    total = ()
    for image in images(prime, low, a):
        total = slow_sum(prime, total, image)
    assert len(total) <= 1
    return total[0] if total else 0


def field_elements(prime, low):
    """All elements of a field, in the order of the sums of their numbers times prime ** index."""
    return [cut(numbers[::-1]) for numbers in all_rows(prime, len(low) - 1)]


# Field polynomials of each degree that is let, the greatest ones included.
SOME_FIELDS = {
    2: [(0, 1), (1, 1), (1, 1, 1), (1, 0, 1, 1), (1, 1, 1, 1, 1), (1, 1, 0, 0, 1), (1, 0, 1, 0, 0, 1), (1, 0, 0, 1, 0, 0, 1),
        (1, 1, 0, 1, 1, 0, 0, 0, 1), (1, 0, 0, 1, 0, 0, 0, 0, 0, 0, 0, 0, 1), (1, 1, 0, 0, 1, 0, 1, 0, 0, 0, 0, 0, 1)],
    3: [(0, 1), (1, 1), (2, 1), (1, 0, 1), (2, 1, 1), (1, 2, 0, 1), (2, 1, 0, 0, 1), (1, 0, 2, 0, 0, 0, 0, 1)],
    5: [(0, 1), (3, 1), (2, 0, 1), (1, 1, 1), (2, 3, 0, 1), (1, 4, 0, 0, 0, 1)],
    7: [(0, 1), (4, 1), (1, 0, 1), (3, 1, 1), (2, 0, 0, 1), (3, 1, 0, 1, 1)],
}


def wrong_fields(prime):
    """Values that are no field polynomials."""
    whole = SOME_FIELDS[prime][-1]
    greatest = {2: 12, 3: 7, 5: 5, 7: 4}[prime]
    values = wrong_tuples(prime) + [(), (1,), (0, 0, 1), (0, 1, 1), (1, 2 % prime, 1), (0,) * greatest + (1,), whole + (0,)]
    values += [slow_product(prime, (1, 1), (prime - 1, 1)), slow_product(prime, (0, 1), SOME_FIELDS[prime][2])]
    # Degrees that are too great, of polynomials that cannot be split.
    values += {2: [(1, 1, 0, 1, 1) + (0,) * 8 + (1,), (1,) * 19], 3: [(2, 0, 0, 1, 0, 0, 0, 0, 1)],
               5: [(2, 1, 0, 0, 0, 0, 1)], 7: [(3, 6, 0, 0, 0, 1)]}[prime]
    if prime > 2:
        # Another leading number.
        values += [(0, 2), (1, 2), (1, prime - 1), tuple(2 * number % prime for number in SOME_FIELDS[prime][3])]
    return values


def wrong_elements(prime, low):
    """Values that are no elements of a field."""
    size = len(low) - 1
    values = [low, (0,) * size + (1,), (1,) * (size + 1), (0,), (0,) * size, (1,) + (0,) * size, (1,) * 300]
    return wrong_tuples(prime) + values + [(1,) * at + (0,) for at in range(1, size)]
