"""Point 5: texts of polynomials."""

import random
import re
import unittest
from itertools import product

from taprows.errors import BadPolynomial, BadPrime, InvalidText, NotText
from taprows.rowtexts import read, write
from tests.support import (PRIMES, WRONG_PRIMES, WRONG_TEXTS, all_polynomials, check_wrong, cut, random_polynomial,
                           wrong_polynomials)

# What may come next, and where that leads: behind a whole term, `+` or the end.
STATES = {
    "term": {"integer": "number", "x": "x"},
    "number": {"x": "x", "+": "term", "end": None},
    "x": {"^": "power", "+": "term", "end": None},
    "power": {"integer": "done"},
    "done": {"+": "term", "end": None},
}


def slow_place(prime, text):
    """The place at which a text goes wrong, None if it does not, by a table of states."""
    state = "term"
    for found in re.finditer("[0-9]+| +|.", text, re.DOTALL):
        word = found.group()
        if word.strip(" ") == "":
            continue
        kind = "integer" if word[0] in "0123456789" else word
        if kind not in STATES[state]:
            return found.start()
        if kind == "integer":
            most = prime - 1 if state == "term" else 200
            if word not in [str(number) for number in range(most + 1)]:
                return found.start()
        state = STATES[state][kind]
    return None if "end" in STATES[state] else len(text)


def slow_read(prime, text):
    """The polynomial of a text that is allowed."""
    numbers = {}
    for term in text.replace(" ", "").split("+"):
        number, x, power = term.partition("x")
        at = int(power.strip("^") or 1) if x else 0
        numbers[at] = numbers.get(at, 0) + int(number or 1)
    return cut([numbers.get(at, 0) % prime for at in range(201)])


def place_of(prime, text):
    try:
        read(prime, text)
    except InvalidText as error:
        return error.place
    return None


class Writing(unittest.TestCase):

    def test_terms(self):
        for prime, a, text in (
                (2, (), "0"), (2, (1,), "1"), (3, (2,), "2"), (2, (0, 1), "x"), (7, (0, 6), "6x"),
                (2, (0, 0, 1), "x^2"), (5, (0, 0, 4), "4x^2"), (2, (1, 1), "x+1"), (7, (1, 1, 1), "x^2+x+1"),
                (7, (3, 0, 5, 0, 1), "x^4+5x^2+3"), (5, (0, 2, 2, 1), "x^3+2x^2+2x"), (3, (1, 2, 0, 0), None),
                (2, (0,) * 200 + (1,), "x^200"), (7, (6,) + (0,) * 99 + (2,), "2x^100+6")):
            if text is None:
                self.assertRaises(BadPolynomial, write, prime, a)
            else:
                self.assertEqual(write(prime, a), text)
                self.assertEqual(read(prime, text), a)

    def test_written_and_read(self):
        rng = random.Random(1)
        for prime in PRIMES:
            some = [random_polynomial(rng, prime, rng.randrange(202)) for _ in range(50)]
            for a in all_polynomials(prime, 3) + some + [(prime - 1,) * 201, (1,) * 201]:
                text = write(prime, a)
                self.assertIs(type(text), str)
                self.assertEqual(read(prime, text), a)
                self.assertEqual(slow_read(prime, text), a)
                self.assertNotIn(" ", text)

    def test_wrong(self):
        for prime in PRIMES:
            wrong = [(BadPrime, WRONG_PRIMES), (BadPolynomial, wrong_polynomials(prime))]
            check_wrong(self, write, (prime, (1, 1)), wrong)
            check_wrong(self, write, (prime, (1,) * 201), wrong)


class Reading(unittest.TestCase):

    def test_texts(self):
        for prime, text, a in (
                (2, "1+1", ()), (2, "0", ()), (7, "0x^200+0", ()), (5, "x+x+x+x+x+1", (1,)), (5, "4x^3+3x^3", (0, 0, 0, 2)),
                (7, " 6 x ^ 2 + x ", (0, 1, 6)), (3, "1x^1+2x^0", (2, 1)), (3, "2+x", (2, 1)), (2, "x^200", (0,) * 200 + (1,)),
                (7, "x^0", (1,)), (7, "1x", (0, 1)), (7, "   3", (3,)), (2, "x^10+x^9", (0,) * 9 + (1, 1)),
                (2, "x^199", (0,) * 199 + (1,)), (2, "x^100+x^20", (0,) * 20 + (1,) + (0,) * 79 + (1,))):
            self.assertEqual(read(prime, text), a)

    def test_random_texts(self):
        rng = random.Random(2)
        for prime in PRIMES:
            for _ in range(300):
                terms = []
                for _ in range(rng.randrange(1, 6)):
                    number = str(rng.randrange(prime))
                    power = rng.choice(["", " ^ " + str(rng.randrange(201)), "^" + str(rng.randrange(4))])
                    terms.append(rng.choice([number, "x" + power, number + "x" + power, " " + number + "  x" + power]))
                text = rng.choice(["+", " +", "+ ", "  +  "]).join(terms)
                self.assertEqual(read(prime, text), slow_read(prime, text), text)

    def test_all_short_texts(self):
        signs = "0 2 3 x ^ + $".split(" ") + [" ", "01", "200", "201"]
        for prime in (3, 5):
            for size in range(5):
                for words in product(signs, repeat=size):
                    text = "".join(words)
                    place = slow_place(prime, text)
                    self.assertEqual(place_of(prime, text), place, text)
                    if place is None:
                        self.assertEqual(read(prime, text), slow_read(prime, text))

    def test_places(self):
        for prime, text, place in (
                # Texts that end too early.
                (2, "", 0), (2, "  ", 2), (2, "x+", 2), (2, "x + ", 4), (2, "x^", 2), (2, "x^  ", 4), (7, "3x ^", 4),
                # Wrong signs.
                (2, "y", 0), (2, "X", 0), (2, "+x", 0), (2, "x++x", 2), (2, "-x", 0), (3, "x-1", 1), (2, "x*x", 1),
                (2, "xx", 1), (2, "x x", 2), (2, "x1", 1), (2, "x 1", 2), (2, "x^x", 2), (2, "^2", 0), (2, "1^2", 1),
                (2, "x^^2", 2), (2, "x^+1", 2), (2, "x^2x", 3), (2, "x^2^2", 3), (2, "\tx", 0), (2, "x\n", 1),
                (2, "x^-1", 2), (7, "3.x", 1), (2, "x+\u00a0x", 2), (2, "1 x^1 ?", 6), (2, "(x)", 0), (2, "x,", 1),
                # Signs that are digits elsewhere.
                (7, "\u00b2", 0), (7, "x^\u00b2", 2), (7, "\u0663", 0), (7, "x\u00b2", 1), (7, "1\u0661", 1),
                # Integers that are too great.
                (2, "2", 0), (3, "x+3", 2), (5, "5x", 0), (7, "7", 0), (7, "10", 0), (5, "1+x^201", 4), (5, "x^1000", 2),
                (5, "x ^ 999", 4), (3, "x + 12x", 4), (7, "9" * 5000, 0), (7, "x^" + "9" * 5000, 2),
                # Needless leading zeros.
                (2, "00", 0), (2, "01", 0), (5, "x+ 01x", 3), (2, "x^01", 2), (2, "x^00", 2), (7, "x^ 0200", 3),
                (7, "x^007", 2), (7, "0" * 5000, 0),
                # Spaces within an integer.
                (2, "1 1", 2), (7, "1 0", 2), (7, "x^1 0", 4), (7, "x^20 0", 5), (7, "0  1x", 3)):
            self.assertEqual(place_of(prime, text), place, text)
            self.assertEqual(slow_place(prime, text), place, text)

    def test_bounds_of_numbers_and_powers(self):
        for prime in PRIMES:
            self.assertEqual(read(prime, f"{prime - 1}x^200"), (0,) * 200 + (prime - 1,))
            for number in (prime, prime + 1, 10, 11, 100):
                self.assertEqual(place_of(prime, f"1+{number}x"), 2)
            for power in (201, 202, 210, 300, 1000, 2000):
                self.assertEqual(place_of(prime, f"1+x^{power}"), 4)

    def test_wrong(self):
        for prime in PRIMES:
            check_wrong(self, read, (prime, "x+1"), [(BadPrime, WRONG_PRIMES), (NotText, WRONG_TEXTS)])
            check_wrong(self, read, (prime, "x+1"), [(BadPrime, WRONG_PRIMES), (InvalidText, ["", "y", "x^", "01"])])


if __name__ == "__main__":
    unittest.main()
