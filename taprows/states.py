"""States: all tuples of so many numbers."""


def states_of(prime, size):
    """The ascending list of all tuples of so many numbers."""
    found = [()]
    for _ in range(size):
        found = [known + (number,) for known in found for number in range(prime)]
    return found


def place_of(prime, state):
    """The index of a state among all of its size."""
    place = 0
    for number in state:
        place = place * prime + number
    return place
