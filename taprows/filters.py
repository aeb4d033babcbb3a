"""Tables modulo 2 that read registers: rows, agreement with sums, immunity (points 37 to 39)."""

from math import comb

from taprows.checks import MOST_NUMBERS, MOST_TAPS, ascends, check_number, check_pair, check_size, check_table
from taprows.checks import is_between
from taprows.errors import BadPlaces, BadSums
from taprows.freely import terms_of
from taprows.integers import power_of
from taprows.recurrence import first_numbers
from taprows.states import place_of, states_of

MOST_PLACE = 60
MOST_TERM = 9


def filtered(wired, size, table, places, count):
    """The first numbers of the row of a table's entries for the numbers at some places of a register's row."""
    check_pair(2, wired)
    _check(size, table)
    _check_places(size, places)
    check_number(count, 0, MOST_NUMBERS)
    taps, start = wired
    row = first_numbers(2, taps, start, count + places[-1])
    states = [[row[at + place] for place in places] for at in range(count)]
    return tuple([table[place_of(2, state)] for state in states])


def term_degree(size, table):
    """The greatest length of a term of a table, -1 if it has none."""
    return max([len(term) for term in terms_of(size, table)], default=-1)


def filter_bound(length, degree):
    """The greatest length of a row that a table of a term degree reads from a register with so many taps."""
    check_number(length, 0, MOST_TAPS)
    check_number(degree, 0, MOST_TERM)
    return sum([comb(length, many) for many in range(degree + 1)])


def table_sums(size, table):
    """For each state how many more entries of a table are equal to those of the sum at it than not."""
    _check(size, table)
    return _sums_of(size, table)


def from_sums(size, values):
    """The table with told such numbers."""
    check_size(2, size)
    many = power_of(2, size)
    if not isinstance(values, tuple) or len(values) != many or not all([is_between(n, -many, many) for n in values]):
        raise BadSums("sums are a tuple of an integer for each state")
    # Done twice, this gives back the signs of the entries, each as often as there are states.
    signs = _transformed(size, values)
    if not all([abs(sign) == many for sign in signs]):
        raise BadSums("no table has these sums")
    return tuple([0 if sign > 0 else 1 for sign in signs])


def farness(size, table):
    """The least number of entries in which a table differs from a sum with a constant."""
    _check(size, table)
    return (power_of(2, size) - _greatest(_sums_of(size, table))) // 2


def nearest_sums(size, table):
    """The ascending list of the pairs (state, constant) of the sums that differ in so many entries."""
    _check(size, table)
    sums = _sums_of(size, table)
    # It is not 0 for all states, so each state has one constant at most.
    most = _greatest(sums)
    return [(state, 0 if told > 0 else 1) for state, told in zip(states_of(2, size), sums) if abs(told) == most]


def immunity(size, table):
    """The greatest number of indexes such that no numbers told for them tell anything about the entries 1."""
    _check(size, table)
    # This is the greatest m with sums of 0 for all states with from 1 to m numbers 1 (G. Xiao, J. Massey, 1988).
    sums = _sums_of(size, table)
    many = [sum(state) for state, told in zip(states_of(2, size), sums) if told != 0]
    return min([ones for ones in many if ones > 0], default=size + 1) - 1


def _check(size, table):
    check_size(2, size)
    check_table(2, size, table)


def _check_places(size, value):
    if not isinstance(value, tuple) or len(value) != size:
        raise BadPlaces("places are a tuple of as many integers as the size tells")
    if not all([is_between(place, 0, MOST_PLACE) for place in value]) or not ascends(value):
        raise BadPlaces(f"places are different ascending integers from 0 to {MOST_PLACE}")


def _sums_of(size, table):
    return tuple(_transformed(size, [1 - 2 * entry for entry in table]))


def _transformed(size, numbers):
    """For each state the sum of the numbers of all states, taken with the sign that the sum at it has for them."""
    sums = list(numbers)
    for place in range(size):
        bit = 1 << place
        sums = [sums[at ^ bit] - told if at & bit else sums[at ^ bit] + told for at, told in enumerate(sums)]
    return sums


def _greatest(sums):
    return max([abs(told) for told in sums])
