"""Fields of a prime's power: which values are let, and what is done in them without checks of the arguments."""

from taprows.checks import are_numbers
from taprows.coefficients import power_rest_of, sum_of
from taprows.errors import BadElement, BadField
from taprows.integers import power_of
from taprows.splitting import is_whole

MOST_FIELD_DEGREE = 12
MOST_IN_FIELD = 4096


def is_field(prime, value):
    """Whether any value is a field polynomial."""
    if not are_numbers(prime, value, MOST_FIELD_DEGREE + 1) or len(value) < 2 or value[-1] != 1:
        return False
    return field_size(prime, value) <= MOST_IN_FIELD and is_whole(prime, value)


def is_element(prime, low, value):
    """Whether any value is an element of the field of a polynomial."""
    return are_numbers(prime, value, len(low) - 1) and value[-1:] != (0,)


def check_field(prime, value):
    if not is_field(prime, value):
        raise BadField("a field polynomial has the leading number 1 and cannot be split")


def check_element(prime, low, value):
    if not is_element(prime, low, value):
        raise BadElement("an element is a polynomial of lower degree than the field polynomial")


def field_size(prime, low):
    """How many elements a field has."""
    return power_of(prime, len(low) - 1)


def trace_in(prime, low, a):
    """The sum of the images of an element, as a number."""
    total = ()
    image = a
    for _ in range(len(low) - 1):
        total = sum_of(prime, total, image)
        image = power_rest_of(prime, image, prime, low)
    return number_of(total)


def number_of(a):
    """The number that a polynomial of the degree 0, or zero, stands for."""
    return a[0] if a else 0
