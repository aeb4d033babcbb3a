"""The names and arguments of the interface, and the error classes with their fields."""

import inspect
import unittest
from importlib import import_module

import taprows.errors as errors

FUNCTIONS = {
    "polys": ["poly_sum(prime, a, b)", "poly_product(prime, a, b)", "power_rest(prime, a, exponent, modulus)",
              "divide(prime, a, b)", "combination(prime, a, b)"],
    "registers": ["run(prime, taps, start, count)", "state_after(prime, taps, start, steps)",
                  "first_break(prime, taps, row)", "fraction(prime, taps, start)",
                  "expansion(prime, above, low, count)"],
    "rowtexts": ["write(prime, a)", "read(prime, text)"],
    "shortest": ["least_length(prime, row)", "shortest(prime, row)", "all_shortest(prime, row)",
                 "lower_bound(prime, row, length)", "shows_bound(prime, row, length, value)"],
    "profiles": ["profile(prime, row)", "row_of_profile(prime, lengths)", "profile_break(lengths)",
                 "count_profile(prime, lengths)", "count_rows(prime, size, length)", "rows_of(prime, size, length)",
                 "mean_length(prime, size)", "partial_quotients(prime, taps, start)", "is_perfect(prime, row)"],
    "periods": ["least_period(prime, block)", "block_fraction(prime, block)", "block_taps(prime, block)",
                "power_length(prime, block)", "count_blocks(prime, exponent, length)", "spectrum(prime, block)",
                "from_spectrum(prime, told)"],
    "changes": ["changed_length(block, most)", "shows_change(block, most, value)", "changes_to_lower(block)",
                "steps(block)"],
    "factors": ["factors(prime, a)", "cannot_split(prime, a)", "order(prime, a)", "order_certificate(prime, a)",
                "shows_order(prime, a, value)", "is_primitive(prime, a)", "primitives(prime, size)"],
    "cycles": ["cycles(prime, taps)", "cycle_starts(prime, taps)", "row_period(prime, taps, start)"],
    "joined": ["least_one(prime, wired)", "added(prime, one, other)", "multiplied(prime, one, other)",
               "woven(prime, registers)", "decimated(prime, wired, first, step)"],
    "agreement": ["agreements(one, other)", "shifted_agreements(one, other)", "is_two_valued(block)",
                  "difference_set(block)", "merit(row)", "is_complementary(one, other)", "complementary_pair(power)",
                  "complementary_pairs(size)", "squares_block(size)"],
    "freely": ["free_run(prime, size, table, start, count)", "clash(prime, size, table)", "taps_of(prime, size, table)",
               "free_cycles(prime, size, table)", "joined_table(size, table)", "terms_of(size, table)",
               "table_of(size, terms)", "free_length(prime, row)", "free_bound(prime, row)"],
    "allwords": ["first_missing(prime, size, block)", "has_all_words(prime, size, block)", "greedy_block(prime, size)",
                 "least_block(prime, size)", "count_all_words(prime, size)", "all_words_blocks(prime, size)"],
    "carries": ["row_number(prime, row)", "number_row(prime, number, count)", "carry_sum(prime, one, other)",
                "carry_product(prime, one, other)", "carry_quotient(prime, one, other)",
                "fraction_row(prime, fraction, count)", "repeated_fraction(prime, ahead, block)",
                "fraction_period(prime, fraction)", "long_lows(prime, most)"],
    "carryruns": ["carry_run(prime, taps, start, carry, count)", "carry_fraction(prime, taps, start, carry)",
                  "carry_register(prime, fraction)", "least_fraction(prime, row)", "carry_span(prime, row)"],
    "wirings": ["other_run(prime, taps, start, count)", "to_other(prime, taps, start)",
                "from_other(prime, taps, state)", "other_after(prime, taps, state, steps)",
                "leap_rows(prime, taps, steps)"],
    "common": ["common_length(prime, rows)", "common_taps(prime, rows)", "common_bound(prime, rows, length)",
               "shows_common_bound(prime, rows, length, value)"],
    "clocked": ["shrunk(one, other, count)", "stepped(one, other, count)", "voted(one, two, three, count)",
                "run_counts(prime, block)", "word_counts(prime, size, block)"],
    "filters": ["filtered(wired, size, table, places, count)", "term_degree(size, table)", "filter_bound(length, degree)",
                "table_sums(size, table)", "from_sums(size, values)", "farness(size, table)", "nearest_sums(size, table)",
                "immunity(size, table)"],
    "extensions": ["element_product(prime, low, a, b)", "element_inverse(prime, low, a)",
                   "element_power(prime, low, a, exponent)", "generator(prime, low)", "minimal_polynomial(prime, low, a)",
                   "element_order(prime, low, a)", "trace(prime, low, a)", "norm(prime, low, a)",
                   "logarithm(prime, low, base, a)"],
    "traces": ["trace_row(prime, parts, count)", "trace_parts(prime, taps, start)", "wide_spectrum(prime, block)",
               "wide_block(prime, entries)", "turned_rings(prime, size)"],
}
METHODS = ["run(self, text)", "trial(self, text)", "names(self)", "register_of(self, name)", "undo(self)"]
WITHOUT_FIELDS = """BadPrime BadRow BadPolynomial BadNumber BadTaps BadStart ZeroDivisor NotText BadLengths BadBlock
NotUnit BadRegister BadBits BadSize BadTable NotOneToOne BadTerms BadFraction OtherSize BadPlaces BadSums BadName BadField
BadElement NotSingle BadSpectrum""".split()
WITH_FIELDS = {
    "InvalidText": ["place"], "TooMany": ["most"], "BadProfile": ["index"], "BadRegisters": ["index"],
    "BadRows": ["index"], "InvalidCommand": ["line", "column"], "BadParts": ["index"],
}


class Interface(unittest.TestCase):

    def test_functions(self):
        for module, texts in FUNCTIONS.items():
            found = import_module(f"taprows.{module}")
            for text in texts:
                function = getattr(found, text.partition("(")[0])
                self.assertEqual(f"{function.__name__}{inspect.signature(function)}", text)
                self.assertEqual(function.__module__, f"taprows.{module}")

    def test_sessions(self):
        found = import_module("taprows.sessions").Session
        self.assertEqual(found.__module__, "taprows.sessions")
        self.assertEqual(str(inspect.signature(found)), "(prime)")
        for text in METHODS:
            # In the class itself, not only in a base class.
            method = vars(found)[text.partition("(")[0]]
            self.assertEqual(f"{method.__name__}{inspect.signature(method)}", text)

    def test_base_class(self):
        self.assertEqual(errors.RowsError.__bases__, (ValueError,))

    def test_errors_without_fields(self):
        for name in WITHOUT_FIELDS:
            self.assertEqual(getattr(errors, name).__bases__, (errors.RowsError,), name)
            self.assertEqual(vars(getattr(errors, name)("told")), {})

    def test_errors_with_fields(self):
        for name, fields in WITH_FIELDS.items():
            found = getattr(errors, name)
            self.assertEqual(found.__bases__, (errors.RowsError,), name)
            for values in ([3, 8], [None, None]):
                told = values[:len(fields)]
                error = found(*told)
                self.assertEqual(vars(error), dict(zip(fields, told)))
                self.assertIsInstance(str(error), str)

    def test_no_further_errors(self):
        names = {name for name, value in vars(errors).items() if inspect.isclass(value)}
        self.assertEqual(names, {"RowsError", *WITHOUT_FIELDS, *WITH_FIELDS})


if __name__ == "__main__":
    unittest.main()
