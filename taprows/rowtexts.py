"""Texts of polynomials (point 5)."""

from taprows.checks import MOST_COEFFICIENTS, check_polynomial, check_prime
from taprows.coefficients import trimmed
from taprows.errors import InvalidText, NotText

# Other signs than these ten are digits for the methods of strings, too.
FIGURES = "0123456789"
MOST_POWER = MOST_COEFFICIENTS - 1


def write(prime, a):
    """The text of a polynomial, by descending powers."""
    check_prime(prime)
    check_polynomial(prime, a)
    terms = [_written(a[power], power) for power in reversed(range(len(a))) if a[power] != 0]
    return "+".join(terms) if terms else "0"


def read(prime, text):
    """The polynomial of a text; InvalidText tells the index where it goes wrong."""
    check_prime(prime)
    if not isinstance(text, str):
        raise NotText("a text is a string")
    numbers = [0] * MOST_COEFFICIENTS
    number, power, at = _term(prime, text, 0)
    numbers[power] = number
    while at < len(text):
        if text[at] != "+":
            raise InvalidText(at)
        number, power, at = _term(prime, text, at + 1)
        numbers[power] = (numbers[power] + number) % prime
    return trimmed(numbers)


def _written(number, power):
    if power == 0:
        return str(number)
    ahead = "" if number == 1 else str(number)
    behind = "" if power == 1 else f"^{power}"
    return f"{ahead}x{behind}"


def _stands(text, at, signs):
    """Whether one of some signs stands at an index of a text."""
    return at < len(text) and text[at] in signs


def _behind_spaces(text, at):
    while _stands(text, at, " "):
        at += 1
    return at


def _term(prime, text, at):
    """The number and the power of a term, and the index behind it and the spaces there."""
    at = _behind_spaces(text, at)
    number = 1
    if _stands(text, at, FIGURES):
        number, at = _integer(text, at, prime - 1)
        if not _stands(text, at, "x"):
            return number, 0, at
    elif not _stands(text, at, "x"):
        raise InvalidText(at)
    power = 1
    at = _behind_spaces(text, at + 1)
    if _stands(text, at, "^"):
        power, at = _integer(text, _behind_spaces(text, at + 1), MOST_POWER)
    return number, power, at


def _integer(text, at, most):
    """An integer up to a bound, and the index behind it and the spaces there."""
    end = at
    while _stands(text, end, FIGURES):
        end += 1
    figures = text[at:end]
    # The size comes first: Python refuses to read integers of thousands of figures.
    if figures == "" or len(figures) > len(str(most)) or int(figures) > most:
        raise InvalidText(at)
    if figures != str(int(figures)):
        raise InvalidText(at)
    return int(figures), _behind_spaces(text, end)
