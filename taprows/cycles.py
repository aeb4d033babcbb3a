"""Cycles of states and periods of rows (point 18; B. Elspas, 1959)."""

from math import lcm

from taprows.checks import check_prime, check_states, check_taps, check_wired
from taprows.errors import NotUnit, TooMany
from taprows.growth import least_wired
from taprows.integers import power_of
from taprows.recurrence import first_numbers, modulus_of, next_number
from taprows.splitting import factors_of, order_of, prime_power, whole_order
from taprows.states import states_of

MOST_WALKED = 5000


def cycles(prime, taps):
    """The ascending list of the pairs (length, number of cycles of this length)."""
    _check_unit(prime, taps)
    check_states(prime, len(taps))
    states = {1: 1}
    for factor, exponent in factors_of(prime, modulus_of(prime, taps)):
        states = _joined(states, _states_of_power(prime, factor, exponent))
    return sorted([(length, many // length) for length, many in states.items()])


def cycle_starts(prime, taps):
    """The ascending list of the least states of the cycles."""
    _check_unit(prime, taps)
    if power_of(prime, len(taps)) > MOST_WALKED:
        raise TooMany(MOST_WALKED)
    starts = []
    seen = {}
    # The first state of a cycle that is met is its least one, as the states ascend.
    for state in states_of(prime, len(taps)):
        if state not in seen:
            starts.append(state)
        walked = state
        while walked not in seen:
            seen[walked] = True
            walked = walked[1:] + (next_number(prime, taps, walked),)
    return starts


def row_period(prime, taps, start):
    """The pair (ahead, period): behind so many numbers a register's row repeats, with this least period."""
    check_wired(prime, taps, start)
    check_states(prime, len(taps))
    least, _ = least_wired(prime, first_numbers(prime, taps, start, 2 * len(taps)))
    modulus = modulus_of(prime, least)
    ahead = 0
    while modulus[ahead] == 0:
        ahead += 1
    return ahead, order_of(prime, modulus[ahead:])


def _check_unit(prime, taps):
    check_prime(prime)
    check_taps(prime, taps)
    if not taps or taps[-1] == 0:
        raise NotUnit("all states stand in cycles only if the last tap is not 0")


def _states_of_power(prime, factor, exponent):
    """How many states stand in cycles of each length, for a power of a polynomial that cannot be split."""
    order = whole_order(prime, factor)
    many = power_of(prime, len(factor) - 1)
    states = {1: 1}
    for power in range(1, exponent + 1):
        # These are the states that the power of the factor makes, and the one below it does not.
        new = power_of(many, power) - power_of(many, power - 1)
        length = order * prime_power(prime, power)
        states[length] = states.get(length, 0) + new
    return states


def _joined(states, others):
    """How many pairs of a state and another one stand in cycles of each length."""
    pairs = {}
    for length, many in states.items():
        for other, more in others.items():
            both = lcm(length, other)
            pairs[both] = pairs.get(both, 0) + many * more
    return pairs
