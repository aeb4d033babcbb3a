"""Sums of rows of numbers with weights."""

from taprows.integers import inverse


def zero_sums(prime, rows):
    """A basis of the tuples of weights with which rows of one size add up to zeros."""
    leads = []
    found = []
    for at, row in enumerate(rows):
        # Behind the row stand the weights of the sum that it has become.
        weights = [0] * len(rows)
        weights[at] = 1
        rest = _reduced(prime, list(row) + weights, leads)
        column = _first_other(rest[:len(row)])
        if column is None:
            found.append(tuple(rest[len(row):]))
        else:
            scale = inverse(prime, rest[column])
            leads.append((column, [scale * number % prime for number in rest]))
    return found


def _reduced(prime, row, leads):
    """A row less multiples of the leads, with 0 in the column of each."""
    for column, lead in leads:
        factor = row[column]
        if factor != 0:
            row = [(number - factor * other) % prime for number, other in zip(row, lead)]
    return row


def _first_other(numbers):
    """The first index of a number other than 0, None if there is none."""
    for at, number in enumerate(numbers):
        if number != 0:
            return at
    return None
