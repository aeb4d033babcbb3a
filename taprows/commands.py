"""Lines of a session's text: their words, and which of these are let (points 40 and 41)."""

from taprows.checks import MOST_TAPS
from taprows.errors import InvalidCommand
from taprows.rowtexts import FIGURES

# What stands behind each command: a name that stands for a register, or another one, and so on.
KINDS = {
    "let": ("new", "taps", "start"),
    "add": ("name", "name", "new"),
    "times": ("name", "name", "new"),
    "weave": ("name", "name", "new"),
    "every": ("name", "first", "step", "new"),
    "run": ("name", "count"),
    "length": ("name",),
    "period": ("name",),
    "drop": ("name",),
}
BOUNDS = {"first": (0, 1000), "step": (1, 1000), "count": (0, 400)}
LETTERS = "abcdefghijklmnopqrstuvwxyz"
MOST_LETTERS = 8


def words_of(line):
    """The list of the pairs (column, word) of a line, columns being counted from 1."""
    words = []
    column = 1
    for word in line.split(" "):
        if word != "":
            words.append((column, word))
        column += len(word) + 1
    return words


def told_by(prime, registers, number, line):
    """The list of the command of a line that is not blank and of what its further words tell.

    Words that are not let raise InvalidCommand; number is that of the line.
    """
    words = words_of(line)
    column, command = words[0]
    if command not in KINDS:
        raise InvalidCommand(number, column)
    told = [command]
    for place, kind in enumerate(KINDS[command], start=1):
        if place == len(words):
            raise InvalidCommand(number, len(line) + 1)
        column, word = words[place]
        value = _value_of(prime, registers, kind, word, told[-1])
        if value is None:
            raise InvalidCommand(number, column)
        told.append(value)
    if len(words) > len(told):
        column, _ = words[len(told)]
        raise InvalidCommand(number, column)
    return told


def _value_of(prime, registers, kind, word, ahead):
    """What a word of a kind tells, None if it is not let; ahead is what the word ahead of it tells."""
    if kind == "new":
        return word if _is_name(word) else None
    if kind == "name":
        return word if word in registers else None
    if kind == "taps":
        return _numbers_of(prime, word)
    if kind == "start":
        numbers = _numbers_of(prime, word)
        return numbers if numbers is not None and len(numbers) == len(ahead) else None
    least, most = BOUNDS[kind]
    return _integer_of(word, least, most)


def _is_name(word):
    return len(word) <= MOST_LETTERS and all([letter in LETTERS for letter in word])


def _numbers_of(prime, word):
    """The tuple of the numbers of a word of figures, () for a word that stands for none, None for others."""
    if word == "-":
        return ()
    if len(word) > MOST_TAPS or not all([figure in FIGURES[:prime] for figure in word]):
        return None
    return tuple([int(figure) for figure in word])


def _integer_of(word, least, most):
    """The integer of a word within bounds, None for other words."""
    # The size comes first: Python refuses to read integers of thousands of figures.
    if len(word) > len(str(most)) or not all([figure in FIGURES for figure in word]):
        return None
    number = int(word)
    return number if least <= number <= most and str(number) == word else None
