"""The examples that the interface shows, word for word."""

import unittest

EXAMPLES = {
    "taprows/polys.py": '''
>>> from taprows.polys import combination, divide, poly_product, poly_sum, power_rest
>>> [poly_sum(3, (1, 2), (2, 1)), poly_product(3, (1, 2), (2, 1)), divide(2, (1, 0, 0, 1), (1, 1)), power_rest(2, (0, 1), 7, (1, 1, 0, 1)), combination(5, (2, 2), ())[0]]
[(), (2, 2, 2), ((1, 1, 1), ()), (1,), (1, 1)]
''',
    "taprows/registers.py": '''
>>> from taprows.registers import expansion, first_break, fraction, run, state_after
>>> [run(2, (0, 1, 1), (1, 0, 0), 10), first_break(5, (1, 1), (0, 1, 1, 2, 3, 1)), state_after(7, (1, 1), (0, 1), 16), fraction(7, (1, 1), (0, 1)), expansion(7, (0, 1), (1, 6, 6), 8)]
[(1, 0, 0, 1, 0, 1, 1, 1, 0, 0), 5, (0, 1), ((0, 1), (1, 6, 6)), (0, 1, 1, 2, 3, 5, 1, 6)]
''',
    "taprows/rowtexts.py": '''
>>> from taprows.rowtexts import read, write
>>> [write(3, (2, 1, 0, 2)), write(2, ()), read(3, "2x ^2 + x+ 2x+1"), read(5, "0x^9+x^0")]
['2x^3+x+2', '0', (1, 0, 2), (1,)]
>>> read(3, "x+3")
raises InvalidText(place=2)
''',
    "taprows/shortest.py": '''
>>> from taprows.shortest import all_shortest, least_length, lower_bound, shortest, shows_bound
>>> [least_length(2, (0, 0, 1)), all_shortest(2, (1, 0, 1)), all_shortest(3, (1, 2)), shortest(5, (0, 1, 1, 2, 3, 0)), least_length(7, ())]
[3, [(0, 1), (1, 1)], [(2,)], (1, 1), 0]
>>> [lower_bound(2, (0, 0, 1), 2), shows_bound(2, (0, 0, 1), 1, (0, 1)), shows_bound(2, (0, 0, 1), 1, (1, 0)), lower_bound(2, (0, 0, 1), 3)]
[(1,), True, False, None]
''',
    "taprows/profiles.py": '''
>>> from taprows.profiles import count_profile, count_rows, is_perfect, mean_length, partial_quotients, profile, profile_break, rows_of
>>> [profile(2, (0, 0, 1, 1, 0, 1)), profile_break((0, 2, 2, 2)), profile_break((1, 2)), count_profile(3, (0, 2, 2)), count_rows(2, 3, 2), rows_of(2, 3, 2)]
[(0, 0, 3, 3, 3, 3), None, 1, 6, 4, [(0, 1, 0), (0, 1, 1), (1, 0, 1), (1, 1, 0)]]
>>> [mean_length(2, 2), partial_quotients(7, (1, 1), (0, 1)), is_perfect(2, (1, 1, 0)), is_perfect(2, (1, 0, 0))]
[(1, 1), [(6, 6, 1)], True, False]
''',
    "taprows/periods.py": '''
>>> from taprows.periods import block_fraction, block_taps, count_blocks, from_spectrum, least_period, power_length, spectrum
>>> [least_period(2, (1, 0, 1, 0)), block_fraction(2, (1, 0, 1, 0)), block_taps(3, (1, 2, 0)), block_taps(5, (0, 0)), power_length(2, (1, 1, 0, 0)), power_length(3, (1, 1, 1))]
[2, ((1,), (1, 0, 1)), (2, 2), (), 3, 1]
>>> [count_blocks(2, 2, 3), count_blocks(3, 1, 0), spectrum(5, (1, 0, 0, 0)), spectrum(7, (1, 2)), from_spectrum(7, (3, 6))]
[4, 1, (1, 1, 1, 1), (3, 6), (1, 2)]
''',
    "taprows/changes.py": '''
>>> from taprows.changes import changed_length, changes_to_lower, shows_change, steps
>>> [changed_length((1, 0, 0, 0), 1), changes_to_lower((1, 1, 0, 0)), changes_to_lower((0, 0)), steps((1, 0, 0, 0)), steps((1, 1, 1, 0)), shows_change((1, 1, 1, 0), 1, (1, (1, 1, 1, 1)))]
[(0, (0, 0, 0, 0)), 2, None, [(0, 4), (1, 0)], [(0, 4), (1, 1), (3, 0)], True]
''',
    "taprows/factors.py": '''
>>> from taprows.factors import cannot_split, factors, is_primitive, order, order_certificate, primitives, shows_order
>>> [factors(2, (1, 0, 0, 0, 1)), factors(3, (0, 2, 0, 1)), cannot_split(2, (1, 1, 1)), order(2, (1, 1, 0, 1)), order_certificate(2, (1, 1, 1)), is_primitive(3, (1, 0, 1))]
[[((1, 1), 4)], [((0, 1), 1), ((1, 1), 1), ((2, 1), 1)], True, 7, (3, ((3, (0, 1)),)), False]
>>> [primitives(2, 3), shows_order(2, (1, 1), (1, ())), order(5, (3,))]
[[(1, 0, 1, 1), (1, 1, 0, 1)], True, 1]
''',
    "taprows/cycles.py": '''
>>> from taprows.cycles import cycle_starts, cycles, row_period
>>> [cycles(2, (1, 1)), cycles(3, (0, 2)), cycle_starts(2, (0, 1)), row_period(2, (1, 0), (0, 1)), row_period(7, (1, 1), (0, 1)), row_period(2, (), ())]
[[(1, 1), (3, 1)], [(1, 1), (4, 2)], [(0, 0), (0, 1), (1, 1)], (1, 1), (0, 16), (0, 1)]
''',
    "taprows/joined.py": '''
>>> from taprows.joined import added, decimated, least_one, multiplied, woven
>>> one, other = ((1, 1), (0, 1)), ((1,), (1,))
>>> [least_one(2, ((0, 1), (1, 1))), added(2, one, other), multiplied(3, ((1, 1), (0, 1)), ((2,), (1,))), woven(2, (other, ((), ()))), decimated(2, one, 1, 2)]
[((1,), (1,)), ((0, 0, 1), (1, 0, 0)), ((2, 1), (0, 2)), ((0, 1), (1, 0)), ((1, 1), (1, 0))]
''',
    "taprows/agreement.py": '''
>>> from taprows.agreement import agreements, complementary_pair, complementary_pairs, difference_set, is_complementary, is_two_valued, merit, shifted_agreements, squares_block
>>> [agreements((0, 1, 1), (0, 1, 1)), shifted_agreements((0, 0, 1), (0, 0, 1)), is_two_valued((0, 0, 1, 0)), difference_set((0, 0, 0, 1, 0, 1, 1)), merit((0, 0, 1)), merit((1,))]
[(3, -1, -1), (3, 0, -1), True, ((3, 5, 6), 1), (9, 2), None]
>>> [complementary_pair(2), is_complementary((0, 0, 1), (0, 1, 1)), len(complementary_pairs(2)), squares_block(7)]
[((0, 0, 0, 1), (0, 0, 1, 0)), False, 8, (0, 0, 0, 1, 0, 1, 1)]
''',
    "taprows/freely.py": '''
>>> from taprows.freely import clash, free_bound, free_cycles, free_length, free_run, joined_table, table_of, taps_of, terms_of
>>> [free_run(2, 2, (1, 0, 0, 1), (0, 0), 7), clash(2, 2, (1, 0, 0, 1)), clash(2, 1, (1, 1)), taps_of(2, 2, (0, 1, 1, 0)), taps_of(2, 1, (1, 0))]
[(0, 0, 1, 0, 0, 1, 0), None, ((0,), (1,)), (1, 1), None]
>>> [free_cycles(2, 2, (0, 0, 1, 1)), joined_table(2, (0, 0, 1, 1)), terms_of(2, (1, 0, 0, 1)), table_of(2, ((0, 1),)), free_length(2, (0, 1, 1, 0)), free_bound(2, (0, 1, 1, 0)), free_length(3, (2, 2))]
[[((0, 0), 1), ((0, 1), 2), ((1, 1), 1)], (1, 1, 0, 0), [(), (0,), (1,)], (0, 0, 0, 1), 2, (2, 3), 0]
''',
    "taprows/allwords.py": '''
>>> from taprows.allwords import all_words_blocks, count_all_words, first_missing, greedy_block, has_all_words, least_block
>>> [first_missing(2, 2, (0, 1)), has_all_words(2, 2, (0, 0, 1, 1)), greedy_block(2, 3), least_block(2, 3), least_block(3, 1), count_all_words(3, 2), all_words_blocks(2, 3)]
[(0, 0), True, (0, 0, 0, 1, 1, 1, 0, 1), (0, 0, 0, 1, 0, 1, 1, 1), (0, 1, 2), 24, [(0, 0, 0, 1, 0, 1, 1, 1), (0, 0, 0, 1, 1, 1, 0, 1)]]
''',
    "taprows/carries.py": '''
>>> from taprows.carries import carry_product, carry_quotient, carry_sum, fraction_period, fraction_row, long_lows, number_row, repeated_fraction, row_number
>>> [row_number(3, (1, 2)), number_row(2, -2, 4), carry_sum(5, (4, 4), (1, 0)), carry_product(2, (1, 1, 0), (1, 1, 0)), carry_quotient(3, (1, 0, 0), (2, 0, 0))]
[7, (0, 1, 1, 1), (0, 0), (1, 0, 0), (2, 1, 1)]
>>> [fraction_row(2, (1, 3), 6), repeated_fraction(2, (1,), (1, 0)), fraction_period(2, (1, 3)), fraction_period(7, (-2, 4)), long_lows(2, 20)]
[(1, 1, 0, 1, 0, 1), (1, 3), (1, 2), (0, 1), [3, 5, 11, 13, 19]]
''',
    "taprows/carryruns.py": '''
>>> from taprows.carryruns import carry_fraction, carry_register, carry_run, carry_span, least_fraction
>>> [carry_run(2, (0, 1), (1, 1), 0, 6), carry_run(2, (0, 1), (1, 0), 1, 7), carry_fraction(2, (0, 1), (1, 0), 1), carry_run(2, (), (), 6, 5)]
[(1, 1, 1, 1, 1, 1), (1, 0, 0, 1, 0, 1, 0), (-5, 3), (0, 1, 1, 0, 0)]
>>> [least_fraction(2, (1, 1, 0, 1, 0, 1)), carry_span(2, (1, 1, 0, 1, 0, 1)), least_fraction(3, (0, 0)), carry_span(5, ())]
[(1, 3), 3, (0, 1), 1]
''',
    "taprows/wirings.py": '''
>>> from taprows.wirings import from_other, leap_rows, other_after, other_run, to_other
>>> [other_run(2, (1, 1), (0, 1), 5), to_other(3, (1, 2), (1, 1)), from_other(3, (1, 2), (1, 0)), leap_rows(5, (1, 1), 3), other_after(7, (1, 1), (0, 1), 16)]
[(0, 1, 1, 0, 1), (1, 0), (1, 1), ((1, 2), (2, 3)), (0, 1)]
''',
    "taprows/common.py": '''
>>> from taprows.common import common_bound, common_length, common_taps, shows_common_bound
>>> rows = ((0, 1, 1, 0), (1, 1, 1))
>>> [common_length(2, rows), common_taps(2, ((0, 1, 1, 0), (1, 1, 0))), common_bound(2, rows, 3), shows_common_bound(2, ((0, 1), (1, 1)), 1, ((1,), (0,))), common_length(3, ((),))]
[3, (1, 1), None, True, 0]
''',
    "taprows/clocked.py": '''
>>> from taprows.clocked import run_counts, shrunk, stepped, voted, word_counts
>>> one, other = ((1, 1), (0, 1)), ((0, 1), (1, 0))
>>> [shrunk(one, other, 5), stepped(one, other, 6), voted(one, other, ((1,), (1,)), 4), shrunk(one, ((), ()), 3)]
[(0, 1, 1, 0, 1), (0, 1, 1, 1, 1, 0), (1, 1, 1, 0), ()]
>>> [run_counts(2, (0, 1, 1, 0)), run_counts(3, (2, 2)), word_counts(2, 1, (0, 1, 1)), word_counts(2, 2, (0, 1))]
[[(0, 2, 1), (1, 2, 1)], [], [((0,), 1), ((1,), 2)], [((0, 1), 1), ((1, 0), 1)]]
''',
    "taprows/filters.py": '''
>>> from taprows.filters import farness, filter_bound, filtered, from_sums, immunity, nearest_sums, table_sums, term_degree
>>> [filtered(((1, 1), (0, 1)), 2, (0, 0, 0, 1), (0, 1), 6), term_degree(2, (1, 0, 0, 1)), filter_bound(4, 2), table_sums(2, (0, 0, 0, 1)), from_sums(1, (0, 2))]
[(0, 1, 0, 0, 1, 0), 1, 11, (2, 2, 2, -2), (0, 1)]
>>> [farness(2, (0, 0, 0, 1)), nearest_sums(1, (1, 0)), immunity(2, (0, 1, 1, 0)), immunity(1, (0, 0)), immunity(2, (0, 0, 0, 1))]
[1, [((1,), 1)], 1, 1, 0]
''',
    "taprows/sessions.py": '''
>>> from taprows.sessions import Session
>>> session = Session(2)
>>> told = session.run("let fib 11 01\\nrun fib 6\\n\\nlet one 1 1\\nadd fib one c\\nperiod c\\nlength fib\\ndrop one")
>>> [told, session.names(), session.register_of("c"), session.trial("run c 4"), session.undo(), session.names()]
[[2, '011011', 1, 3, (0, 3), 2, None], ('c', 'fib'), ((0, 0, 1), (1, 0, 0)), ['1001'], True, ()]
''',
    "taprows/sessions.py, 2": '''
>>> from taprows.sessions import Session
>>> Session(3).run("let a 12 0\\n")
raises InvalidCommand(line=1, column=10)
''',
    "taprows/extensions.py": '''
>>> from taprows.extensions import element_inverse, element_order, element_power, element_product, generator, logarithm, minimal_polynomial, norm, trace
>>> low = (1, 0, 1)
>>> [element_product(3, low, (0, 1), (0, 1)), element_inverse(3, low, (1, 1)), element_power(3, low, (1, 1), -2), element_order(3, low, (0, 1)), trace(3, low, (1, 1)), norm(3, low, (1, 1))]
[(2,), (2, 1), (0, 1), 4, 2, 2]
>>> [minimal_polynomial(3, low, (1, 1)), minimal_polynomial(3, low, ()), generator(3, low), logarithm(3, low, (1, 1), (2,)), logarithm(3, low, (2,), (0, 1))]
[(2, 1, 1), (0, 1), (1, 1), 4, None]
''',
    "taprows/traces.py": '''
>>> from taprows.traces import trace_parts, trace_row, turned_rings, wide_block, wide_spectrum
>>> [trace_row(2, (((1, 1), (1,)), ((1, 1, 1), (0, 1))), 6), trace_parts(2, (1, 1), (0, 1)), trace_parts(5, (3,), (2,)), trace_parts(2, (), ())]
[(0, 0, 1, 0, 0, 1), (((1, 1, 1), (1,)),), (((2, 1), (2,)),), ()]
>>> [wide_spectrum(2, (0, 1, 1)), wide_block(2, ((), (1,), (1,))), turned_rings(2, 7), wide_spectrum(5, (1,))]
[((1, 1, 1), ((), (1,), (1,))), (0, 1, 1), [(0,), (1, 2, 4), (3, 6, 5)], ((2, 1), ((1,),))]
''',
}


def shown(code, names):
    """What the interface would show for an expression."""
    try:
        return repr(eval(code, names))
    except ValueError as error:
        fields = ", ".join(f"{name}={value!r}" for name, value in vars(error).items())
        return f"raises {error.__class__.__name__}({fields})"


class Examples(unittest.TestCase):

    def test_examples(self):
        for module, text in EXAMPLES.items():
            names = {}
            lines = text.strip().splitlines()
            for line, behind in zip(lines, lines[1:] + [">>> "]):
                if not line.startswith(">>> "):
                    continue
                if behind.startswith(">>> "):
                    exec(line[4:], names)
                else:
                    with self.subTest(module=module, line=line):
                        self.assertEqual(shown(line[4:], names), behind)


if __name__ == "__main__":
    unittest.main()
