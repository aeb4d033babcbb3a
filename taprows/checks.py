"""Which values are let for arguments, and the errors for all others."""

from taprows.errors import BadBlock, BadFraction, BadLengths, BadNumber, BadPolynomial, BadPrime, BadRegister, BadRow
from taprows.errors import BadSize, BadStart, BadTable, BadTaps, TooMany
from taprows.integers import power_of

PRIMES = (2, 3, 5, 7)
MOST_NUMBERS = 400
MOST_COEFFICIENTS = 201
MOST_TAPS = 60
MOST_FOUND = 2000
MOST_DEGREE = 24
MOST_STATES = 10 ** 12
MOST_SIZE = 9
MOST_ENTRIES = 512
MOST_PART = 10 ** 60
MOST_STEPS = 10 ** 18


def is_between(value, least, most):
    """Whether any value is an integer within these bounds; True and False are none."""
    return isinstance(value, int) and not isinstance(value, bool) and least <= value <= most


def are_numbers(prime, value, most):
    """Whether any value is a tuple of at most so many numbers."""
    if not isinstance(value, tuple) or len(value) > most:
        return False
    return all([is_between(number, 0, prime - 1) for number in value])


def ascends(values):
    """Whether each value of a list or tuple is greater than the one ahead of it."""
    return all([one < other for one, other in zip(values, values[1:])])


def check_prime(value):
    if not is_between(value, 2, 7) or value not in PRIMES:
        raise BadPrime("a prime is one of 2, 3, 5, 7")


def check_number(value, least, most):
    if not is_between(value, least, most):
        raise BadNumber(f"an integer from {least} to {most} is wanted")


def check_row(prime, value):
    if not are_numbers(prime, value, MOST_NUMBERS):
        raise BadRow(f"a row is a tuple of at most {MOST_NUMBERS} numbers")


def check_polynomial(prime, value):
    if not are_numbers(prime, value, MOST_COEFFICIENTS) or value[-1:] == (0,):
        raise BadPolynomial(f"a polynomial is a tuple of at most {MOST_COEFFICIENTS} numbers, the last one not 0")


def check_taps(prime, value):
    if not are_numbers(prime, value, MOST_TAPS):
        raise BadTaps(f"taps are a tuple of at most {MOST_TAPS} numbers")


def are_so_many(prime, value, size):
    """Whether any value is a tuple of just so many numbers."""
    return are_numbers(prime, value, size) and len(value) == size


def check_start(prime, taps, value):
    if not are_so_many(prime, value, len(taps)):
        raise BadStart("a start is a tuple of as many numbers as there are taps")


def check_wired(prime, taps, start):
    """Check what most functions over registers begin with, from the left."""
    check_prime(prime)
    check_taps(prime, taps)
    check_start(prime, taps, start)


def check_lengths(value):
    if not isinstance(value, tuple) or len(value) > MOST_NUMBERS:
        raise BadLengths(f"lengths are a tuple of at most {MOST_NUMBERS} integers")
    if not all([is_between(length, 0, MOST_NUMBERS) for length in value]):
        raise BadLengths(f"lengths are integers from 0 to {MOST_NUMBERS}")


def check_block(prime, value, most=MOST_NUMBERS):
    if not are_numbers(prime, value, most) or len(value) == 0:
        raise BadBlock(f"a block is a tuple of 1 to {most} numbers")


def is_wired(prime, value):
    """Whether any value is a pair of taps and a start."""
    if not isinstance(value, tuple) or len(value) != 2:
        return False
    taps, start = value
    return are_numbers(prime, taps, MOST_TAPS) and are_so_many(prime, start, len(taps))


def check_pair(prime, value):
    if not is_wired(prime, value):
        raise BadRegister("a pair of taps and a start is wanted")


def check_states(prime, size):
    """Check that the states of so many numbers are not too many to be told by their factors."""
    if size > MOST_DEGREE or power_of(prime, size) > MOST_STATES:
        raise TooMany(MOST_STATES)


def check_size(prime, value):
    if not is_between(value, 1, MOST_SIZE) or power_of(prime, value) > MOST_ENTRIES:
        raise BadSize(f"a size is an integer from 1 to {MOST_SIZE} with at most {MOST_ENTRIES} states")


def check_table(prime, size, value):
    if not are_so_many(prime, value, power_of(prime, size)):
        raise BadTable("a table is a tuple of a number for each state")


def check_state(prime, size, value):
    if not are_so_many(prime, value, size):
        raise BadStart("a state is a tuple of as many numbers as the size tells")


def check_fraction(prime, value):
    if not isinstance(value, tuple) or len(value) != 2:
        raise BadFraction("a fraction is a pair of integers")
    above, low = value
    if not is_between(above, -MOST_PART, MOST_PART) or not is_between(low, 1, MOST_PART) or low % prime == 0:
        raise BadFraction("the integers of a fraction are within bounds, the prime does not divide the lower one")
