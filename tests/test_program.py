"""Point 1, over the whole program: arguments, returned lists, errors."""

import doctest
import unittest
from copy import deepcopy
from importlib import import_module
from pathlib import Path

from taprows.errors import RowsError
from taprows.sessions import Session
from tests.test_interface import FUNCTIONS

TABLE = (0, 1, 1, 0)
ROW = (0, 1, 1, 2, 0)
ONE, OTHER = ((1, 1), (0, 1)), ((1,), (1,))
FIELD = (1, 0, 1)
BLOCK = (0, 1, 1, 0)

# A call of each function whose arguments are let.
CALLS = {
    "poly_sum": (3, (1, 2), (2, 1)), "poly_product": (3, (1, 2), (2, 1)), "power_rest": (3, (0, 1), 7, (1, 1, 0, 1)),
    "divide": (3, (1, 0, 1), (1, 1)), "combination": (5, (2, 2), (1, 1)),
    "run": (3, (1, 1), (0, 1), 9), "state_after": (3, (1, 1), (0, 1), 9), "first_break": (5, (1, 1), (0, 1, 1, 2, 3, 1)),
    "fraction": (7, (1, 1), (0, 1)), "expansion": (7, (0, 1), (1, 6, 6), 8),
    "write": (3, (2, 1)), "read": (3, "2x+1"),
    "least_length": (3, ROW), "shortest": (3, ROW), "all_shortest": (3, (1, 2)), "lower_bound": (3, ROW, 1),
    "shows_bound": (3, ROW, 1, (1, 1, 1, 1)),
    "profile": (3, ROW), "row_of_profile": (3, (0, 2, 2)), "profile_break": ((0, 2, 2),), "count_profile": (3, (0, 2, 2)),
    "count_rows": (3, 3, 2), "rows_of": (2, 3, 2), "mean_length": (2, 4), "partial_quotients": (7, (1, 1), (0, 1)),
    "is_perfect": (2, (1, 1, 0)),
    "least_period": (2, (1, 0, 1, 0)), "block_fraction": (2, (1, 0, 1, 0)), "block_taps": (3, (1, 2, 0)),
    "power_length": (2, BLOCK), "count_blocks": (2, 2, 3), "spectrum": (5, BLOCK), "from_spectrum": (5, (3, 1, 1, 0)),
    "changed_length": (BLOCK, 1), "shows_change": (BLOCK, 1, (0, BLOCK)), "changes_to_lower": (BLOCK,), "steps": (BLOCK,),
    "factors": (3, (0, 2, 0, 1)), "cannot_split": (2, (1, 1, 1)), "order": (2, (1, 1, 0, 1)),
    "order_certificate": (2, (1, 1, 1)), "shows_order": (2, (1, 1), (1, ())), "is_primitive": (3, FIELD), "primitives": (2, 3),
    "cycles": (2, (1, 1)), "cycle_starts": (2, (0, 1)), "row_period": (2, (1, 0), (0, 1)),
    "least_one": (2, ONE), "added": (2, ONE, OTHER), "multiplied": (3, ONE, OTHER), "woven": (2, (ONE, OTHER)),
    "decimated": (2, ONE, 1, 2),
    "agreements": (BLOCK, BLOCK), "shifted_agreements": (BLOCK, BLOCK), "is_two_valued": (BLOCK,), "difference_set": (BLOCK,),
    "merit": (BLOCK,), "is_complementary": (BLOCK, BLOCK), "complementary_pair": (2,), "complementary_pairs": (2,),
    "squares_block": (7,),
    "free_run": (2, 2, (1, 0, 0, 1), (0, 0), 7), "clash": (2, 2, TABLE), "taps_of": (2, 2, TABLE),
    "free_cycles": (2, 2, (0, 0, 1, 1)), "joined_table": (2, (0, 0, 1, 1)), "terms_of": (2, TABLE),
    "table_of": (2, ((0, 1), (1,))), "free_length": (2, BLOCK), "free_bound": (2, BLOCK),
    "first_missing": (2, 2, BLOCK), "has_all_words": (2, 2, BLOCK), "greedy_block": (2, 3), "least_block": (2, 3),
    "count_all_words": (3, 2), "all_words_blocks": (2, 3),
    "row_number": (3, ROW), "number_row": (3, -2, 4), "carry_sum": (3, (1, 2), (2, 2)), "carry_product": (3, (1, 2), (2, 2)),
    "carry_quotient": (3, (1, 2), (2, 2)), "fraction_row": (3, (1, 2), 6), "repeated_fraction": (3, (1,), (1, 0)),
    "fraction_period": (3, (1, 2)), "long_lows": (2, 20),
    "carry_run": (3, (0, 1), (1, 1), -4, 6), "carry_fraction": (3, (0, 1), (1, 1), -4), "carry_register": (3, (1, 2)),
    "least_fraction": (3, ROW), "carry_span": (3, ROW),
    "other_run": (3, (1, 1), (0, 1), 5), "to_other": (3, (1, 1), (0, 1)), "from_other": (3, (1, 1), (0, 1)),
    "other_after": (3, (1, 1), (0, 1), 5), "leap_rows": (3, (1, 1), 5),
    "common_length": (3, (ROW, (1, 1))), "common_taps": (3, (ROW, (1, 1))), "common_bound": (3, (ROW, (1, 1)), 1),
    "shows_common_bound": (3, (ROW, (1, 1)), 1, ((1, 1, 1, 1), (0,))),
    "shrunk": (ONE, OTHER, 5), "stepped": (ONE, OTHER, 5), "voted": (ONE, OTHER, ONE, 5), "run_counts": (3, ROW),
    "word_counts": (3, 2, ROW),
    "filtered": (ONE, 2, TABLE, (0, 3), 6), "term_degree": (2, TABLE), "filter_bound": (4, 2), "table_sums": (2, TABLE),
    "from_sums": (2, (0, 0, 0, 4)), "farness": (2, TABLE), "nearest_sums": (2, TABLE), "immunity": (2, TABLE),
    "element_product": (3, FIELD, (1, 1), (0, 1)), "element_inverse": (3, FIELD, (1, 1)), "element_power": (3, FIELD, (1, 1), -2),
    "generator": (3, FIELD), "minimal_polynomial": (3, FIELD, (1, 1)), "element_order": (3, FIELD, (1, 1)),
    "trace": (3, FIELD, (1, 1)), "norm": (3, FIELD, (1, 1)), "logarithm": (3, FIELD, (1, 1), (2,)),
    "trace_row": (3, ((FIELD, (1, 1)),), 6), "trace_parts": (3, (1, 1), (0, 1)), "wide_spectrum": (3, BLOCK),
    "wide_block": (3, ((), (1,), (2,), (1,))), "turned_rings": (3, 8),
}

VALUES = [0, 1, 2, -1, 3, 6, 10 ** 9, -10 ** 80, 10 ** 130, "", "1", "x", "abc", "let a 1 1", True, False, None, (), (0,), (1,),
          (True,), ("1",), (None,), ((),), ([],), ({},), (0, 1), (1, 0), (1, 1, 1), (0,) * 450, (1,) * 70, (-1, 1), (1, -1),
          (7, 1), ((1, 1), (0, 1)), ((1,), (1,)), (((1,), (1,)),), ((0, 1), (1,)), ((1, 1), [1]), ((0,), (0,)), [], [1], [0, 1],
          [(1,), (1,)], [[]], {}, {0: 1}, {1: (0, 1)}, ({0: 1}, [1]), "\u0661", ("ab", "c"), (10 ** 200, 1), (1, True), (None, ())]


def functions():
    for module, texts in FUNCTIONS.items():
        for text in texts:
            name = text.partition("(")[0]
            yield getattr(import_module(f"taprows.{module}"), name), CALLS[name], text


def outcome(function, arguments):
    """What a call returns or raises, in a form in which True and 1 differ."""
    try:
        return repr(function(*arguments))
    except RowsError as error:
        return error


def told(result):
    return (result.__class__, sorted(vars(result).items())) if isinstance(result, RowsError) else result


class Program(unittest.TestCase):

    def test_each_function_has_a_call(self):
        names = [function.__name__ for function, _, _ in functions()]
        self.assertEqual(sorted(names), sorted(CALLS))
        for function, good, text in functions():
            self.assertEqual(text.count(",") + 1, len(good), text)
            self.assertNotIsInstance(outcome(function, good), RowsError, text)

    def test_calls_change_nothing_and_lists_are_new(self):
        for function, good, _ in functions():
            before = deepcopy(good)
            first = function(*good)
            shown = repr(first)
            self.assertEqual(good, before)
            if isinstance(first, list):
                first.append("more")
                first.reverse()
            self.assertEqual(repr(function(*good)), shown, function)

    def test_lists_stand_only_where_they_are_told(self):
        for function, good, _ in functions():
            result = function(*good)
            self.assertNotIsInstance(result, (dict, set, float))
            if isinstance(result, tuple):
                self.assertNotIn("[", repr(result))

    def test_any_value_may_be_passed(self):
        for function, good, _ in functions():
            for at in range(len(good)):
                for value in VALUES:
                    arguments = [*good[:at], deepcopy(value), *good[at + 1:]]
                    before = deepcopy(arguments)
                    # Any other error than one of the package is not caught here.
                    outcome(function, arguments)
                    self.assertEqual(arguments, before)

    def test_the_leftmost_error_is_raised(self):
        # These are let for no argument, but for those that may be anything.
        wrong = (None, True, False, [1], {}, (None,), (True,), ([],))
        for function, good, text in functions():
            names = text.partition("(")[2].rstrip(")").split(", ")
            for at, name in enumerate(names):
                if name == "value":
                    continue
                for value in wrong:
                    arguments = [*good[:at], value, *good[at + 1:]]
                    alone = outcome(function, arguments)
                    self.assertIsInstance(alone, RowsError, (text, arguments))
                    self.assertRegex(alone.__class__.__name__, "^Bad|^NotText", (text, arguments))
                    for behind in range(at + 1, len(good)):
                        for other in wrong:
                            both = arguments[:behind] + [other] + arguments[behind + 1:]
                            self.assertEqual(told(outcome(function, both)), told(alone), (text, both))

    def test_any_value_may_be_passed_to_sessions(self):
        session = Session(2)
        for value in VALUES:
            for method in (Session, session.run, session.trial, session.register_of):
                before = deepcopy(value)
                outcome(method, [value])
                self.assertEqual(value, before)
        self.assertEqual(session.names(), ("a",))

    def test_examples_of_the_readme(self):
        # The end of a block of code is no part of what an example shows.
        text = (Path(__file__).resolve().parent.parent / "README.md").read_text().replace("```", "")
        runner = doctest.DocTestRunner()
        runner.run(doctest.DocTestParser().get_doctest(text, {}, "README.md", None, 0))
        self.assertGreater(runner.tries, 5)
        self.assertEqual(runner.failures, 0)


if __name__ == "__main__":
    unittest.main()
