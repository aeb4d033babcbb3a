"""Points 40 and 41: sessions."""

import random
import unittest
from copy import deepcopy

from taprows.cycles import row_period
from taprows.errors import BadName, BadPrime, InvalidCommand, NotText
from taprows.joined import added, decimated, least_one, multiplied, woven
from taprows.registers import run
from taprows.sessions import Session
from tests.support import PRIMES, WRONG_PRIMES, WRONG_TEXTS, most_of, random_wired, slow_run

NONE = ((), ())
WRONG_NAMES = ["", "a ", " a", "A", "a1", "abcdefghi", "-", "nosuch", 0, 1, True, False, None, (), ("a",), [], ["a"], {},
               {"a": 1}]


def figures(numbers):
    return "".join(map(str, numbers)) or "-"


def let(name, wired):
    return f"let {name} {figures(wired[0])} {figures(wired[1])}"


def started(prime, **registers):
    """A session that keeps registers."""
    session = Session(prime)
    session.run("\n".join(let(name, wired) for name, wired in registers.items()))
    return session


def kept(session):
    return {name: session.register_of(name) for name in session.names()}


class Case(unittest.TestCase):

    def wrong_at(self, session, text, line, column):
        """Check where run and trial find a text wrong, and that they change nothing."""
        before = kept(session)
        for method in (session.run, session.trial):
            with self.assertRaises(InvalidCommand, msg=text) as caught:
                method(text)
            self.assertEqual((caught.exception.line, caught.exception.column), (line, column), text)
            self.assertEqual(vars(caught.exception), {"line": line, "column": column})
            self.assertEqual(kept(session), before)


class Commands(Case):

    def test_let(self):
        rng = random.Random(1)
        for prime in PRIMES:
            for size in (0, 1, 2, 9, 59, 60):
                for _ in range(3):
                    wired = random_wired(rng, prime, size)
                    session = Session(prime)
                    self.assertEqual(session.run(let("some", wired)), [size])
                    # It is kept as it is told, even where a shorter one has the same row.
                    self.assertEqual(session.register_of("some"), wired)
                    self.assertEqual(session.names(), ("some",))
        session = started(7, a=((0, 0), (0, 0)), b=NONE)
        self.assertEqual(kept(session), {"a": ((0, 0), (0, 0)), "b": NONE})

    def test_registers_from_registers(self):
        rng = random.Random(2)
        for prime in PRIMES:
            for sizes in ((0, 0), (1, 0), (2, 3), (5, 4), (10, 6), (20, 3)):
                one, other = (random_wired(rng, prime, size) for size in sizes)
                for command, wanted in (("add one other", added(prime, one, other)),
                                        ("times one other", multiplied(prime, one, other)),
                                        ("times other one", multiplied(prime, other, one)),
                                        ("weave one other", woven(prime, (one, other))),
                                        ("weave other one", woven(prime, (other, one))),
                                        ("add one one", added(prime, one, one)),
                                        ("weave other other", woven(prime, (other, other))),
                                        ("every one 0 1", decimated(prime, one, 0, 1)),
                                        ("every one 3 2", decimated(prime, one, 3, 2)),
                                        ("every one 2 3", decimated(prime, one, 2, 3)),
                                        ("every other 1000 1000", decimated(prime, other, 1000, 1000))):
                    # A new name, and one that stands for a register already.
                    for new in ("c", "one", "other"):
                        session = started(prime, one=one, other=other)
                        told = session.run(f"{command} {new}")
                        self.assertEqual([(type(number), number) for number in told], [(int, len(wanted[0]))])
                        self.assertEqual(kept(session), {**{"one": one, "other": other}, new: wanted})

    def test_answers(self):
        rng = random.Random(3)
        for prime in PRIMES:
            wires = [NONE, ((0,), (1,)), ((1,), (1,)), ((1,) * 60, (1,) * 60)]
            for wired in wires + [random_wired(rng, prime, size) for size in (1, 2, 5, 8, 60)]:
                session = started(prime, a=wired)
                for count in (0, 1, 2, 59, 61, 399, 400):
                    told = session.run(f"run a {count}")
                    self.assertEqual(told, ["".join(map(str, slow_run(prime, *wired, count)))])
                    self.assertEqual(told, ["".join(map(str, run(prime, *wired, count)))])
                told = session.run("length a")
                self.assertEqual([(type(length), length) for length in told], [(int, len(least_one(prime, wired)[0]))])
                if len(wired[0]) < 12:
                    told = session.run("period a")
                    self.assertEqual([(type(pair), pair) for pair in told], [(tuple, row_period(prime, *wired))])
                self.assertEqual(kept(session), {"a": wired})

    def test_drop(self):
        session = started(2, a=NONE, b=((1,), (1,)))
        self.assertEqual(session.run("drop a"), [None])
        self.assertEqual(session.names(), ("b",))
        self.wrong_at(session, "drop a", 1, 6)
        self.wrong_at(session, "run a 5", 1, 5)
        self.assertEqual(session.run("let a 1 1\ndrop b\ndrop a"), [1, None, None])
        self.assertEqual(session.names(), ())

    def test_names_of_commands_are_names(self):
        session = Session(3)
        self.assertEqual(session.run("let let 1 2\nadd let let add\nrun add 3\ndrop let\ndrop add"), [1, 1, "111", None, None])
        self.assertEqual(session.run("let abcdefgh 1 2\nlet z - -"), [1, 0])
        self.assertEqual(session.names(), ("abcdefgh", "z"))

    def test_names_ascend(self):
        session = Session(2)
        session.run("\n".join(f"let {name} - -" for name in ("zz", "b", "a", "ab", "aa", "z", "c")))
        self.assertEqual(session.names(), ("a", "aa", "ab", "b", "c", "z", "zz"))

    def test_blank_lines_and_spaces(self):
        session = Session(5)
        self.assertEqual(session.run(""), [])
        self.assertEqual(session.run("\n"), [])
        self.assertEqual(session.run("   \n\n \n"), [])
        self.assertEqual(session.run("\n  let   a    14   02  \n \nrun a 4\n"), [2, "0220"])
        self.assertEqual(session.run(" run  a  0"), [""])
        self.assertEqual(kept(session), {"a": ((1, 4), (0, 2))})

    def test_each_line_knows_those_ahead(self):
        session = Session(2)
        text = "let a 11 01\nadd a a b\nlength b\nlet b 1 1\nlength b\ndrop a\nlet a - -\nrun a 2"
        self.assertEqual(session.run(text), [2, 0, 0, 1, 1, None, 0, "00"])

    def test_random_texts(self):
        rng = random.Random(4)
        for prime in PRIMES:
            session = Session(prime)
            model = {}
            past = []
            for _ in range(60):
                before = dict(model)
                lines, wanted = [], []
                for _ in range(rng.randrange(5)):
                    line, answer = self.random_command(rng, prime, model)
                    lines.append(line)
                    wanted.extend([answer] if line.strip() else [])
                text = "\n".join(lines)
                self.assertEqual(session.trial(text), wanted)
                self.assertEqual(kept(session), before)
                self.assertEqual(session.run(text), wanted)
                self.assertEqual(kept(session), model)
                past.append(before)
                while past and rng.randrange(4) == 0:
                    self.assertIs(session.undo(), True)
                    model = past.pop()
                    self.assertEqual(kept(session), model)
                    before = dict(model)
            while past:
                self.assertIs(session.undo(), True)
                self.assertEqual(kept(session), past.pop())
            self.assertIs(session.undo(), False)

    def random_command(self, rng, prime, model):
        """A line and its answer; the model is changed as the session has to be."""
        new = rng.choice(("a", "b", "long", "abcdefgh"))
        kind = rng.randrange(10)
        if kind < 2 or not model:
            model[new] = random_wired(rng, prime, rng.randrange(4))
            return let(new, model[new]), len(model[new][0])
        name, other = rng.choice(sorted(model)), rng.choice(sorted(model))
        one, two = model[name], model[other]
        first, step, count = rng.randrange(9), rng.randrange(1, 9), rng.randrange(30)
        if kind < 6:
            many = (len(one[0]) + len(two[0]), len(one[0]) * len(two[0]), 2 * len(one[0]) + 2 * len(two[0]), 0)[kind - 2]
            if many > 20:
                return "  ", None
            line, made = ((f"add {name} {other} {new}", added), (f"times {name} {other} {new}", multiplied),
                          (f"weave {name} {other} {new}", woven), (f"every {name} {first} {step} {new}", decimated))[kind - 2]
            model[new] = {woven: lambda: woven(prime, (one, two)), decimated: lambda: decimated(prime, one, first, step)}.get(
                made, lambda: made(prime, one, two))()
            return line, len(model[new][0])
        if kind == 6:
            return f"run {name} {count}", "".join(map(str, slow_run(prime, *one, count)))
        if kind == 7:
            return f"length {name}", len(least_one(prime, one)[0])
        if kind == 8 and len(one[0]) < 12:
            return f"period {name}", row_period(prime, *one)
        del model[name]
        return f"drop {name}", None


class Wrong(Case):

    def setUp(self):
        self.session = started(3, a=((1, 2), (0, 1)), b=((2,), (1,)), none=NONE)

    def at(self, line, column):
        """Check the column of a wrong line, also behind others and with spaces."""
        self.wrong_at(self.session, line, 1, column)
        self.wrong_at(self.session, f"\n  \nlet q 1 1\n{line}\nnonsense", 4, column)
        self.wrong_at(self.session, "   " + line, 1, column + 3)

    def test_commands(self):
        for word in ("lets", "LET", "Let", "le", "letx", "-", "1", "undo", "names", "trial", "let\t", "\t", "\r", "let,", "\u00a0",
                     "add,", "mul", "x" * 100, "name", "new", "let-"):
            self.at(word, 1)
            self.at(f"{word} a 1 1", 1)

    def test_names(self):
        for word in ("A", "aA", "a1", "abcdefghi", "-", "1", "a-", "\u00e4", "\t", "a\t", "a.", "abcdefgh\r"):
            for line in ("let {} 1 1", "run {} 3", "length {}", "period {}", "drop {}", "add {} a c", "every {} 1 1 c"):
                self.at(line.format(word), line.index("{") + 1)
            for line in ("add a b {}", "times a b {}", "weave a b {}", "every a 12 3 {}"):
                self.at(line.format(word), line.index("{") + 1)

    def test_names_without_register(self):
        for word in ("c", "ab", "abcdefgh", "let"):
            for line in ("run {} 3", "length {}", "period {}", "drop {}", "add {} a c", "add a {} c", "times {} a c",
                         "times a {} c", "weave {} a c", "weave a {} c", "every {} 1 1 c"):
                self.wrong_at(self.session, line.format(word), 1, line.index("{") + 1)
                self.wrong_at(self.session, f"let {word} 1 1\ndrop {word}\n" + line.format(word), 3, line.index("{") + 1)
                # At its time the name may stand for one.
                self.assertEqual(len(self.session.trial(f"let {word} 1 1\n" + line.format(word))), 2)

    def test_taps(self):
        for word in ("3", "13", "31", "1" * 61, "2" * 60 + "3", "--", "1-", "-1", "x", "1.", "a", "+1", "\u0661", "\u00b2", "1\t"):
            self.at(f"let c {word} 1", 7)
            self.at(f"let c {word}", 7)
        for prime in PRIMES:
            self.wrong_at(Session(prime), f"let c 1{prime} 11", 1, 7)
            self.assertEqual(Session(prime).run(f"let c 1{prime - 1} 1{prime - 1}"), [2])
            self.assertEqual(Session(prime).run(f"let c {'1' * 60} {'0' * 60}"), [60])

    def test_starts(self):
        for word in ("1", "111", "13", "1-", "-", "--", "x1", "1a", "", "1" * 60, "1" * 61, "\u06610", "-1"):
            if word:
                self.at(f"let c 12 {word}", 10)
        for word in ("0", "1", "00", "--", "x"):
            self.at(f"let c - {word}", 9)
        self.at(f"let c {'1' * 60} {'0' * 61}", 68)
        self.at(f"let c {'1' * 60} {'0' * 59}", 68)

    def test_integers(self):
        words = ("-1", "+1", "01", "00", "007", "1.", "1.0", "x", "-", "1e1", "0x1", "1_0", "\u0661", "\u00b2", "9" * 5000,
                 "1\t", "10000", "1001", "0000", "0" * 5000)
        for word in words:
            self.at(f"every a {word} 1 c", 9)
            self.at(f"every a 1 {word} c", 11)
            self.at(f"run a {word}", 7)
        self.at("every a 1 0 c", 11)
        for word in ("401", "500", "1000", "4000"):
            self.at(f"run a {word}", 7)
        for line in ("every a 0 1 c", "every a 1000 1000 c", "every a 999 1 c", "run a 0", "run a 400", "run a 399"):
            self.assertEqual(len(self.session.trial(line)), 1)

    def test_missing_words(self):
        for line in ("let", "let c", "let c 12", "let c -", "add", "add a", "add a b", "times", "times a", "times a b", "weave",
                     "weave a", "weave a b", "every", "every a", "every a 1", "every a 1 1", "run", "run a", "length", "period",
                     "drop"):
            self.at(line, len(line) + 1)
            # The length of the line is that with the spaces at its end.
            self.at(line + "   ", len(line) + 4)

    def test_words_too_many(self):
        for line in ("let c 12 12", "let c - -", "add a b c", "times a b c", "weave a b c", "every a 1 1 c", "run a 5",
                     "length a", "period a", "drop a"):
            for more in ("a", "-", "?", "a b", "a  "):
                self.at(f"{line} {more}", len(line) + 2)
                self.at(f"{line}   {more}", len(line) + 4)

    def test_the_first_wrong_word_counts(self):
        self.at("add c d E", 5)
        self.at("add a d E", 7)
        self.at("let C 3 3 3", 5)
        self.at("let c 3 3 3", 7)
        self.at("let c 1 3 3", 9)
        self.at("every a x 0 C d", 9)
        self.at("every a 1 0 C d", 11)
        self.at("every a 1 1 C d", 13)
        # A wrong word ahead of one that is missing.
        self.at("every a x", 9)
        self.at("add c", 5)

    def test_the_first_wrong_line_counts(self):
        self.wrong_at(self.session, "let c 1 1\nrun d 1\nrun e 1", 2, 5)
        self.wrong_at(self.session, "run a 1\n\n\nrun a\n?", 4, 6)
        self.wrong_at(self.session, "drop a\ndrop a", 2, 6)
        # A line that is not blank only by another sign than a space.
        self.wrong_at(self.session, "run a 1\n\t\nrun a 1", 2, 1)
        self.wrong_at(self.session, "run a 1\r\nrun b 2", 1, 7)

    def test_a_wrong_text_changes_nothing(self):
        before = kept(self.session)
        text = "drop a\nlet b 0 0\nadd b b c\nevery c 1 1 none\nlet d 1 1\nrun a 4"
        self.wrong_at(self.session, text, 6, 5)
        self.assertEqual(kept(self.session), before)
        # It is no run that could be taken back.
        self.assertIs(self.session.undo(), True)
        self.assertEqual(kept(self.session), {})
        self.assertIs(self.session.undo(), False)

    def test_not_text(self):
        for value in WRONG_TEXTS:
            before = deepcopy(value)
            self.assertRaises(NotText, self.session.run, value)
            self.assertRaises(NotText, self.session.trial, value)
            self.assertEqual(value, before)
        self.assertEqual(self.session.names(), ("a", "b", "none"))


class TooLong(Case):

    def test_too_many_taps(self):
        for prime in PRIMES:
            session = Session(prime)
            for size in (0, 1, 14, 15, 16, 29, 30, 31, 60):
                session.run(let("s" + "abcdefghijk"[len(session.names())], ((1,) * size, (0,) * size)))
            names = {len(session.register_of(name)[0]): name for name in session.names()}
            before = kept(session)
            for command, one, other, fits in (("add", 30, 30, True), ("add", 60, 0, True), ("add", 30, 31, False),
                                              ("add", 60, 1, False), ("add", 60, 60, False), ("times", 60, 1, True),
                                              ("times", 60, 0, True), ("times", 60, 60, False), ("times", 15, 14, False),
                                              ("weave", 15, 15, True), ("weave", 30, 0, True), ("weave", 15, 16, False),
                                              ("weave", 31, 0, False), ("weave", 0, 31, False), ("weave", 29, 1, True)):
                text = f"let x 1 1\n{command} {names[one]} {names[other]} c"
                if fits:
                    self.assertEqual(session.trial(text), [1, 0])
                else:
                    self.assertEqual(most_of(self, session.run, text), 60)
                    self.assertEqual(most_of(self, session.trial, text), 60)
                self.assertEqual(kept(session), before)

    def test_too_many_states(self):
        for prime, most in ((2, 24), (3, 24), (5, 17), (7, 14)):
            wires = {n: ((0,) * (n - 1) + (1,), (1,) + (0,) * (n - 1)) for n in (most, most + 1, 60)}
            session = started(prime, fits=wires[most], more=wires[most + 1], most=wires[60])
            self.assertEqual(session.run("period fits"), [(0, most)])
            for name in ("more", "most"):
                self.assertEqual(most_of(self, session.run, f"drop fits\nperiod {name}"), 10 ** 12)
                self.assertEqual(most_of(self, session.trial, f"period {name}"), 10 ** 12)
            self.assertEqual(session.names(), ("fits", "more", "most"))

    def test_the_first_line_counts(self):
        long = ((1,) * 60, (1,) * 60)
        session = started(2, a=long)
        # Words that are not let come ahead in one line; of several lines the first one counts.
        self.wrong_at(session, "add a a C", 1, 9)
        self.wrong_at(session, "add a a c d", 1, 11)
        self.wrong_at(session, "run b 3\nadd a a c", 1, 5)
        self.assertEqual(most_of(self, session.run, "add a a c\nrun b 3"), 60)
        self.assertEqual(most_of(self, session.run, "period a\nadd a a c"), 10 ** 12)
        self.assertEqual(most_of(self, session.run, "add a a c\nperiod a"), 60)
        self.assertEqual(kept(session), {"a": long})


class Sessions(Case):

    def test_wrong_primes(self):
        for value in WRONG_PRIMES:
            self.assertRaises(BadPrime, Session, value)

    def test_new_sessions(self):
        for prime in PRIMES:
            session = Session(prime)
            self.assertEqual(session.names(), ())
            self.assertIs(session.undo(), False)
            # Sessions know nothing of one another.
            Session(prime).run("let a 1 1")
            self.assertEqual(session.names(), ())
            self.assertRaises(BadName, session.register_of, "a")

    def test_names_that_are_wrong(self):
        session = started(2, a=((1,), (1,)))
        for value in WRONG_NAMES:
            self.assertRaises(BadName, session.register_of, value)
        told = session.register_of("a")
        self.assertEqual([type(part) for part in (told, *told)], [tuple] * 3)
        self.assertEqual(told, ((1,), (1,)))
        self.assertIs(type(session.names()), tuple)

    def test_trial(self):
        session = started(2, a=((1, 1), (0, 1)))
        before = kept(session)
        text = "drop a\nlet b - -\nadd b b a\nrun a 3"
        self.assertEqual(session.trial(text), [None, 0, 0, "000"])
        self.assertEqual(kept(session), before)
        self.assertEqual(session.run(text), [None, 0, 0, "000"])
        self.assertEqual(kept(session), {"a": NONE, "b": NONE})
        session.trial("drop a")
        # A trial is no run that could be taken back.
        self.assertIs(session.undo(), True)
        self.assertEqual(kept(session), before)

    def test_lists_are_new(self):
        session = started(2, a=((1, 1), (0, 1)))
        for method in (session.run, session.trial):
            told = method("run a 3")
            told.append(None)
            self.assertEqual(method("run a 3"), ["011"])

    def test_undo(self):
        session = Session(2)
        session.run("let a 1 1")
        session.run("let a 0 1\nlet b - -")
        self.assertEqual(kept(session), {"a": ((0,), (1,)), "b": NONE})
        self.assertIs(session.undo(), True)
        self.assertEqual(kept(session), {"a": ((1,), (1,))})
        session.run("drop a")
        self.assertEqual(session.names(), ())
        self.assertIs(session.undo(), True)
        self.assertEqual(kept(session), {"a": ((1,), (1,))})
        self.assertIs(session.undo(), True)
        self.assertEqual(session.names(), ())
        for _ in range(3):
            self.assertIs(session.undo(), False)
        self.assertEqual(session.run("let a - -"), [0])
        self.assertIs(session.undo(), True)
        self.assertIs(session.undo(), False)

    def test_undo_of_runs_without_effect(self):
        session = started(2, a=NONE)
        for text in ("", "\n \n", "run a 2", "length a"):
            session.run(text)
        for text in ("run c 2", "add a a c d", "?"):
            self.assertRaises(InvalidCommand, session.run, text)
        self.assertRaises(NotText, session.run, None)
        # Four runs that raised no error and had no effect, and the first one.
        for _ in range(4):
            self.assertIs(session.undo(), True)
            self.assertEqual(session.names(), ("a",))
        self.assertIs(session.undo(), True)
        self.assertEqual(session.names(), ())
        self.assertIs(session.undo(), False)


if __name__ == "__main__":
    unittest.main()
