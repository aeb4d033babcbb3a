"""Sessions: registers that are kept under names, and texts that are run (points 40 and 41)."""

from taprows.checks import check_prime
from taprows.commands import told_by, words_of
from taprows.cycles import row_period
from taprows.errors import BadName, NotText
from taprows.joined import added, decimated, least_one, multiplied, woven
from taprows.recurrence import first_numbers


class Session:
    """Registers under names, modulo a prime.

    A run puts a new dict of registers in the place of the one ahead of it; those ahead are kept for undo.
    """

    def __init__(self, prime):
        check_prime(prime)
        self._prime = prime
        self._kept = {}
        self._past = []

    def run(self, text):
        """Run the commands of a text and return the list of their answers."""
        answers, kept = _tried(self._prime, self._kept, text)
        self._past.append(self._kept)
        self._kept = kept
        return answers

    def trial(self, text):
        """Return or raise what run would return or raise, and change nothing."""
        answers, _ = _tried(self._prime, self._kept, text)
        return answers

    def names(self):
        """The ascending tuple of the names that stand for registers."""
        return tuple(sorted(list(self._kept)))

    def register_of(self, name):
        """The register of a name."""
        if not isinstance(name, str) or name not in self._kept:
            raise BadName("a name that stands for a register is wanted")
        return self._kept[name]

    def undo(self):
        """Take back the effect of the last run that is not yet taken back; return whether there is one."""
        if not self._past:
            return False
        self._kept = self._past.pop()
        return True


def _tried(prime, kept, text):
    """The answers to the lines of a text, and the registers behind them."""
    if not isinstance(text, str):
        raise NotText("a text is a string")
    registers = {name: kept[name] for name in kept}
    answers = []
    for number, line in enumerate(text.split("\n"), start=1):
        if words_of(line):
            told = told_by(prime, registers, number, line)
            answers.append(_answer(prime, registers, told))
    return answers, registers


def _answer(prime, registers, told):
    """The answer to a command; the registers are those behind it then."""
    command, name = told[:2]
    if command == "run":
        taps, start = registers[name]
        return "".join([str(figure) for figure in first_numbers(prime, taps, start, told[2])])
    if command == "length":
        taps, _ = least_one(prime, registers[name])
        return len(taps)
    if command == "period":
        taps, start = registers[name]
        return row_period(prime, taps, start)
    if command == "drop":
        del registers[name]
        return None
    return _kept_anew(prime, registers, told)


def _kept_anew(prime, registers, told):
    """The number of taps of the register that a command makes; it is kept under its new name."""
    if told[0] == "let":
        _, new, taps, start = told
        wired = (taps, start)
    else:
        new = told[-1]
        wired = _made(prime, registers, told)
    registers[new] = wired
    return len(wired[0])


def _made(prime, registers, told):
    """The register that comes from one or two others by a command."""
    command, name, other = told[:3]
    if command == "every":
        return decimated(prime, registers[name], other, told[3])
    if command == "add":
        return added(prime, registers[name], registers[other])
    if command == "times":
        return multiplied(prime, registers[name], registers[other])
    return woven(prime, (registers[name], registers[other]))
