"""Free registers: rows and states by tables (points 23 to 26)."""

from taprows.checks import MOST_NUMBERS, check_number, check_prime, check_row, check_size, check_state, check_table
from taprows.checks import ascends, is_between
from taprows.errors import BadTerms, NotOneToOne
from taprows.integers import power_of
from taprows.recurrence import next_number
from taprows.states import place_of, states_of


def free_run(prime, size, table, start, count):
    """The first numbers of a free register's row."""
    _check(prime, size, table)
    check_state(prime, size, start)
    check_number(count, 0, MOST_NUMBERS)
    row = list(start)
    while len(row) < count:
        row.append(table[place_of(prime, row[-size:])])
    return tuple(row[:count])


def clash(prime, size, table):
    """The least pair of states with the same state behind them, None if there is none."""
    _check(prime, size, table)
    return _clash_of(prime, size, table)


def taps_of(prime, size, table):
    """The taps of the register that goes on in the same way as a table, None if there is none."""
    _check(prime, size, table)
    # A tap is the entry for the state that has a 1 in its place alone.
    taps = tuple([table[power_of(prime, back)] for back in range(size)])
    told = [next_number(prime, taps, state) for state in states_of(prime, size)]
    return taps if tuple(told) == table else None


def free_cycles(prime, size, table):
    """The ascending list of the pairs (least state of the cycle, length)."""
    _check(prime, size, table)
    _check_one_to_one(prime, size, table)
    lengths = {}
    for least in _leasts(prime, size, table):
        lengths[least] = lengths.get(least, 0) + 1
    return sorted(list(lengths.items()))


def joined_table(size, table):
    """A table modulo 2 with one cycle for all states that differs from a table in as few entries as possible."""
    _check(2, size, table)
    _check_one_to_one(2, size, table)
    entries = list(table)
    cycles = _leasts(2, size, table)
    half = len(table) // 2
    # Two states that differ in their first number alone have each other's state behind them if
    # their entries are changed; this joins their cycles if they are two. Without a clash
    # entries change in such pairs only, and each pair can take away one cycle at most.
    for place in range(half):
        one, other = cycles[place], cycles[place + half]
        if one != other:
            entries[place], entries[place + half] = entries[place + half], entries[place]
            cycles = [one if least == other else least for least in cycles]
    return tuple(entries)


def terms_of(size, table):
    """The ascending list of the terms of which a table modulo 2 is the sum."""
    _check(2, size, table)
    marks = _summed_below(size, table)
    states = states_of(2, size)
    return sorted([_ones_of(state) for state, mark in zip(states, marks) if mark == 1])


def table_of(size, terms):
    """The table modulo 2 that is the sum of some terms."""
    check_size(2, size)
    _check_terms(size, terms)
    known = {term: True for term in terms}
    marks = [1 if _ones_of(state) in known else 0 for state in states_of(2, size)]
    return tuple(_summed_below(size, marks))


def free_length(prime, row):
    """The least size of a free register that makes a row."""
    check_prime(prime)
    check_row(prime, row)
    return _least_size(row)


def free_bound(prime, row):
    """The least pair of indexes that shows that no lesser size does; None for the size 0."""
    check_prime(prime)
    check_row(prime, row)
    size = _least_size(row) - 1
    if size < 0:
        return None
    pairs = [(one, other) for one in range(size, len(row)) for other in range(one + 1, len(row))]
    return min([pair for pair in pairs if _shows_unlike(row, size, pair)])


def _check(prime, size, table):
    check_prime(prime)
    check_size(prime, size)
    check_table(prime, size, table)


def _check_one_to_one(prime, size, table):
    if _clash_of(prime, size, table) is not None:
        raise NotOneToOne("two states have the same state behind them")


def _clash_of(prime, size, table):
    states = states_of(prime, size)
    # States with the same state behind them differ in their first number alone.
    stride = len(table) // prime
    for place, state in enumerate(states):
        for other in range(place + stride, len(table), stride):
            if table[other] == table[place]:
                return state, states[other]
    return None


def _leasts(prime, size, table):
    """The list that has for each state the least one of its cycle."""
    leasts = [None] * len(table)
    # The first state of a cycle that is met is its least one, as the states ascend.
    for least in states_of(prime, size):
        state = least
        place = place_of(prime, state)
        while leasts[place] is None:
            leasts[place] = least
            state = state[1:] + (table[place],)
            place = place_of(prime, state)
    return leasts


def _summed_below(size, marks):
    """For each state the sum of the marks of all states that have 1 in no other places than it, modulo 2.

    Done twice, this gives back the marks.
    """
    sums = list(marks)
    for place in range(size):
        bit = 1 << place
        sums = [number ^ sums[at ^ bit] if at & bit else number for at, number in enumerate(sums)]
    return sums


def _ones_of(state):
    """The term of the indexes at which a state has 1."""
    return tuple([at for at, number in enumerate(state) if number == 1])


def _check_terms(size, value):
    if not isinstance(value, tuple) or not all([_is_term(size, term) for term in value]) or not ascends(value):
        raise BadTerms("terms are an ascending tuple of different terms")


def _is_term(size, value):
    if not isinstance(value, tuple) or not all([is_between(at, 0, size - 1) for at in value]):
        return False
    return ascends(value)


def _least_size(row):
    size = 0
    while not _is_made(row, size):
        size += 1
    return size


def _shows_unlike(row, size, pair):
    """Whether the numbers at two indexes are unlike, but the words of a size ahead of them are equal."""
    one, other = pair
    return row[one] != row[other] and row[one - size:one] == row[other - size:other]


def _is_made(row, size):
    """Whether equal words of a size in a row have equal numbers behind them."""
    behind = {}
    for at in range(size, len(row)):
        if behind.setdefault(row[at - size:at], row[at]) != row[at]:
            return False
    return True
