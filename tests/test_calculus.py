"""Points 4.1 to 4.5: the operators of tables, and the tables that are made of tables; also point 0.18."""

from itertools import product

from mayrows.errors import InvalidNumber, InvalidOperation, InvalidTable
from mayrows.table.calculus import (behind, everything, left_rest, letterwise, nothing, right_rest, same, turned)
from mayrows.table.tables import Table
from mayrows.table.within import is_within, parting
from tests import oracles
from tests.checking import Checked, strangers, wrong_numbers, wrong_tables
from tests.samples import (COPY, FREE, LATE, ONCE, branched_table, random_table, round_table, widths_table)

C, F, O, L = Table.of(COPY), Table.of(FREE), Table.of(ONCE), Table.of(LATE)


def couples(many=30, states=3):
    """Couples of tables with equally many lines."""
    for seed in range(many):
        reads, writes = 1 + seed % 2, 1 + seed // 2 % 2
        yield random_table(seed, reads, writes, states), random_table(1000 + seed, reads, writes, states)


def chains(many=30, states=3):
    """Couples of tables, the second of which reads what the first one writes."""
    for seed in range(many):
        reads, betweens, writes = 1 + seed % 2, 1 + seed // 2 % 2, 1 + seed // 4 % 2
        yield random_table(seed, reads, betweens, states), random_table(1000 + seed, betweens, writes, states)


def small(table, other=None):
    """The greatest width up to which all pairs are looked at."""
    lines = table.reads + table.writes + (0 if other is None else other.writes)
    return {2: 4, 3: 3}.get(lines, 2)


def pairs_between(table, other, width):
    """All pairs of a width with some text between."""
    return [(question, answer) for question in oracles.texts(2 ** table.reads, width)
            for answer in oracles.texts(2 ** other.writes, width)
            if any([oracles.has_pair(table, question, between) and oracles.has_pair(other, between, answer)
                    for between in oracles.texts(2 ** table.writes, width)])]


class ExamplesTest(Checked):

    def test_operators(self):
        self.assertEqual([F & turned(F) == C, F | ~F == everything(1, 1), len(F - O), parting(F - O, nothing(1, 1)),
                          (~C).rows[0], same(1) == C],
                         [True, True, 4, ("11", "11"), (False, (0, 1, 1, 0)), True])

    def test_behind(self):
        self.assertEqual([behind(O, O) == O, behind(O, F) == O, behind(F, turned(F)) == everything(1, 1),
                          len(behind(L, L)), turned(O).rows[0]], [True, True, True, 8, (True, (0, 0, 1, 2))])

    def test_rests(self):
        self.assertEqual([left_rest(O, O) == F, left_rest(F, O) == O, list(right_rest(O, F).pairs(1)),
                          len(right_rest(O, F)), is_within(behind(O, right_rest(O, F)), F)],
                         [True, True, [("0", "0"), ("1", "0"), ("1", "1")], 5, True])

    def test_letterwise(self):
        x, y, z = letterwise(1, 1, ((0, 0),)), letterwise(1, 1, ((0, 1),)), letterwise(1, 1, ((1, 0), (0, 0)))
        self.assertEqual([list(behind(x & y, z).pairs(1)), list((behind(x, z) & behind(y, z)).pairs(1))],
                         [[], [("0", "0")]])
        two = letterwise(2, 1, ((3, 1), (0, 0)))
        self.assertEqual([list(two.pairs(1)), behind(turned(two), two) == C, nothing(1, 2) == nothing(2, 1),
                          len(letterwise(1, 1, ()))], [[("0", "0"), ("3", "1")], True, False, 2])

    def test_no_table(self):
        with self.assertRaises(TypeError):
            C | 7


class OperatorsTest(Checked):

    def test_all_pairs_of_small_widths(self):
        for one, other in couples():
            made = [self.answer(lambda x, y: x | y, one, other), self.answer(lambda x, y: x & y, one, other),
                    self.answer(lambda x, y: x - y, one, other), self.answer(lambda x: ~x, one)]
            for table in made:
                self.assertEqual((table.reads, table.writes), (one.reads, one.writes))
                self.assertEqual(Table.told(table.reads, table.writes, table.rows).rows, table.rows)
            for width in range(small(one) + 1):
                everyone = set(product(oracles.texts(2 ** one.reads, width), oracles.texts(2 ** one.writes, width)))
                pairs, others = set(oracles.pairs_of(one, width)), set(oracles.pairs_of(other, width))
                rights = [pairs | others, pairs & others, pairs - others, everyone - pairs]
                for table, right in zip(made, rights):
                    self.assertEqual(oracles.pairs_of(table, width), sorted(right))

    def test_operands_stay_as_they_are(self):
        rows = (F.rows, O.rows, L.rows)
        joined = F
        joined |= O
        made = [F | O, F & O, F - O, ~F, turned(F), behind(F, O), left_rest(F, O), right_rest(F, O), joined]
        self.assertEqual((F.rows, O.rows, L.rows), rows)
        self.assertEqual((made[0], made[3], joined), (F | O, ~F, F | O))

    def test_tables_with_the_same_pairs_have_equal_rows(self):
        for one, other in couples():
            self.assertEqual((one | other).rows, (other | one).rows)
            self.assertEqual((one & other).rows, (~(~one | ~other)).rows)
            self.assertEqual((one - other).rows, (one & ~other).rows)
            self.assertEqual((~~one).rows, one.rows)
            self.assertEqual((one | ~one).rows, everything(one.reads, one.writes).rows)
            self.assertEqual((one - one).rows, nothing(one.reads, one.writes).rows)
            self.assertEqual((one | one).rows, one.rows)

    def test_sixty_states_and_one_more(self):
        only = widths_table([k == 57 for k in range(59)])
        self.assertEqual((len(only), len(only | round_table(2, 0))), (59, 60))
        self.assertTooMany(60, lambda: only | round_table(3, 1))
        self.assertEqual(len(round_table(4, 3) & round_table(15, 14)), 60)
        self.assertTooMany(60, lambda: round_table(8, 7) & round_table(15, 14))
        self.assertEqual(len(round_table(4, 3) - ~round_table(15, 14)), 60)
        self.assertTooMany(60, lambda: round_table(7, 3) - round_table(9, 2))
        self.assertEqual(len(~round_table(60, 59)), 60)

    def test_many_states_of_which_few_are_left(self):
        self.assertEqual(round_table(59, 0) & ~round_table(59, 0), nothing(1, 1))
        self.assertEqual(~round_table(60, 3) | round_table(60, 3), everything(1, 1))
        # The pairs of states are 48 * 60, but both have a width of the rest 3 in rounds of 60 alone.
        self.assertEqual(round_table(60, 3) & round_table(12, 3), round_table(60, 3))
        self.assertEqual(round_table(60, 3) | round_table(12, 3), round_table(12, 3))

    def test_other_operands(self):
        operators = (lambda x, y: x | y, lambda x, y: x & y, lambda x, y: x - y)
        for operator in operators:
            for value in strangers():
                if not isinstance(value, Table):
                    self.assertRaisesThis(TypeError, None, operator, C, value)
                    self.assertRaisesThis(TypeError, None, operator, value, C)
            for one, other in product([nothing(reads, writes) for reads in (1, 2) for writes in (1, 2)], repeat=2):
                if one != other:
                    self.assertRaisesThis(InvalidOperation, None, operator, one, other)

    def test_unlike_lines_count_ahead_of_too_many_states(self):
        self.assertRaisesThis(InvalidOperation, None, lambda x, y: x & y, round_table(8, 7), round_table(15, 14, 2))


class TurnedTest(Checked):

    def test_all_pairs_of_small_widths(self):
        for one, other in couples():
            table = self.answer(turned, one)
            self.assertEqual((table.reads, table.writes), (one.writes, one.reads))
            for width in range(small(one) + 1):
                right = sorted([(answer, question) for question, answer in oracles.pairs_of(one, width)])
                self.assertEqual(oracles.pairs_of(table, width), right)
            self.assertEqual(turned(table).rows, one.rows)
            self.assertEqual(Table.told(table.reads, table.writes, table.rows).rows, table.rows)

    def test_wrong_argument(self):
        self.check_wrong(turned, (C,), (InvalidTable, wrong_tables()))


class BehindTest(Checked):

    def test_all_pairs_of_small_widths(self):
        for one, other in chains(states=2):
            table = self.answer(behind, one, other)
            self.assertEqual((table.reads, table.writes), (one.reads, other.writes))
            self.assertEqual(Table.told(table.reads, table.writes, table.rows).rows, table.rows)
            for width in range(small(one, other) + 1):
                self.assertEqual(oracles.pairs_of(table, width), pairs_between(one, other, width))

    def test_the_number_of_sets_and_states(self):
        found = {60: 0, 2000: 0, None: 0}
        for one, other in list(chains(40, 3)) + list(chains(16, 4)) + list(chains(8, 6)):
            sets, states = oracles.chain_sizes(one, other)
            most = 2000 if sets is None else 60 if states is None else None
            found[most] += 1
            if most is None:
                self.assertEqual(len(behind(one, other)), states)
            else:
                self.assertTooMany(most, behind, one, other)
        self.assertGreater(min(found.values()), 3, found)

    def test_tables_without_pairs(self):
        for reads, writes in product((1, 2), repeat=2):
            self.assertEqual(behind(nothing(reads, 1), everything(1, writes)), nothing(reads, writes))
            self.assertEqual(behind(everything(reads, 2), nothing(2, writes)), nothing(reads, writes))
            self.assertEqual(behind(everything(reads, 2), everything(2, writes)), everything(reads, writes))

    def test_the_same_is_of_no_effect(self):
        for one, other in couples(20):
            self.assertEqual(behind(same(one.reads), one), one)
            self.assertEqual(behind(one, same(one.writes)), one)

    def test_equations(self):
        for seed in range(30):
            lines = (1 + seed % 2, 1 + seed // 2 % 2, 1 + seed // 4 % 2, 1 + seed // 8 % 2)
            x, y = random_table(seed, *lines[:2], 2), random_table(200 + seed, *lines[:2], 2)
            z, w = random_table(300 + seed, *lines[1:3], 2), random_table(400 + seed, *lines[2:], 2)
            self.assertEqual(behind(behind(x, z), w), behind(x, behind(z, w)))
            self.assertEqual(behind(x | y, z), behind(x, z) | behind(y, z))
            self.assertEqual(turned(behind(x, z)), behind(turned(z), turned(x)))
            self.assertIs(is_within(behind(x & y, z), behind(x, z) & behind(y, z)), True)

    def test_two_thousand_sets_and_one_more(self):
        # The sets of the first table's states beside the only state of the other one; all pairs come of them.
        self.assertEqual(self.answer(behind, branched_table(11, (9, 13, 17)), everything(2, 1)), everything(1, 1))
        self.assertTooMany(2000, behind, branched_table(12, (9, 13, 17)), everything(2, 1))
        # Turned, the answers' letters choose instead of those between.
        self.assertEqual(behind(everything(1, 2), turned(branched_table(11, (9, 13, 17)))), everything(1, 1))
        self.assertTooMany(2000, behind, everything(1, 2), turned(branched_table(12, (9, 13, 17))))

    def test_the_empty_set_is_a_set(self):
        # Besides 10 and 1989 sets the empty one is met, by the answer letter 1.
        copied = letterwise(2, 1, ((0, 0), (1, 0), (2, 0), (3, 0)))
        self.assertEqual(len(behind(branched_table(10, (9, 13, 17)), copied)), 2)
        self.assertTooMany(2000, behind, branched_table(11, (9, 13, 17)), copied)

    def test_a_state_without_use_does_not_count(self):
        # A question with a letter 0 leads to the dead state, too, and one without does not.
        table = branched_table(11, (9, 13, 17), escape=True)
        dead = [state for state in range(len(table)) if state not in oracles.useful(table)]
        ends = [{oracles.end_state(table, question, answer) for answer in oracles.texts(4, 3)}
                for question in ("101", "111")]
        self.assertEqual([dead[0] in states for states in ends], [True, False])
        self.assertEqual(behind(table, everything(2, 1)), everything(1, 1))
        self.assertTooMany(2000, behind, branched_table(12, (9, 13, 17), escape=True), everything(2, 1))

    def test_sixty_states_and_one_more(self):
        only = widths_table([k == 58 for k in range(60)])
        self.assertEqual(behind(only, everything(1, 1)), only)
        self.assertEqual(len(behind(round_table(4, 3), round_table(15, 14))), 60)
        self.assertTooMany(60, behind, round_table(7, 3), round_table(9, 2))
        self.assertTooMany(60, behind, round_table(59, 3), round_table(2, 1))

    def test_wrong_arguments(self):
        self.check_wrong(behind, (C, F), (InvalidTable, wrong_tables()), (InvalidTable, wrong_tables()))
        for reads, one, other, writes in product((1, 2), repeat=4):
            if one == other:
                self.assertEqual(behind(everything(reads, one), everything(other, writes)), everything(reads, writes))
            else:
                self.assertRaisesThis(InvalidOperation, None, behind, everything(reads, one), everything(other, writes))
        self.assertRaisesThis(InvalidTable, None, behind, everything(1, 2), 7)
        self.assertRaisesThis(InvalidOperation, None, behind, branched_table(12, (9, 13, 17)), everything(1, 1))


class RestsTest(Checked):

    def test_left_rests_by_all_pairs_of_small_widths(self):
        for seed in range(24):
            table = random_table(seed, 1 + seed % 2, 1, 2)
            whole = random_table(500 + seed, 1 + seed // 2 % 2, 1, 2)
            rest = self.answer(left_rest, table, whole)
            self.assertEqual((rest.reads, rest.writes), (whole.reads, table.reads))
            for width in range(3):
                right = [(question, between) for question in oracles.texts(2 ** whole.reads, width)
                         for between in oracles.texts(2 ** table.reads, width)
                         if all([oracles.has_pair(whole, question, answer)
                                 for answer in oracles.texts(2, width) if oracles.has_pair(table, between, answer)])]
                self.assertEqual(oracles.pairs_of(rest, width), right)

    def test_right_rests_by_all_pairs_of_small_widths(self):
        for seed in range(24):
            table = random_table(seed, 1, 1 + seed % 2, 2)
            whole = random_table(500 + seed, 1, 1 + seed // 2 % 2, 2)
            rest = self.answer(right_rest, table, whole)
            self.assertEqual((rest.reads, rest.writes), (table.writes, whole.writes))
            for width in range(3):
                right = [(between, answer) for between in oracles.texts(2 ** table.writes, width)
                         for answer in oracles.texts(2 ** whole.writes, width)
                         if all([oracles.has_pair(whole, question, answer)
                                 for question in oracles.texts(2, width)
                                 if oracles.has_pair(table, question, between)])]
                self.assertEqual(oracles.pairs_of(rest, width), right)

    def test_a_rest_is_the_greatest_one(self):
        for seed in range(60):
            table, whole = random_table(seed, many=2), random_table(500 + seed, many=3)
            x = random_table(900 + seed, many=2)
            left, right = left_rest(table, whole), right_rest(table, whole)
            self.assertIs(is_within(behind(left, table), whole), True)
            self.assertIs(is_within(behind(table, right), whole), True)
            for one in (x, left & x, left - x, left | x, nothing(1, 1)):
                self.assertIs(is_within(one, left), is_within(behind(one, table), whole))
            for one in (x, right & x, right - x, right | x, nothing(1, 1)):
                self.assertIs(is_within(one, right), is_within(behind(table, one), whole))
            self.assertEqual(left, ~behind(~whole, turned(table)))
            self.assertEqual(right, ~behind(turned(table), ~whole))

    def test_lines(self):
        for reads, writes, other in product((1, 2), repeat=3):
            self.assertEqual(left_rest(everything(reads, writes), everything(other, writes)), everything(other, reads))
            self.assertEqual(right_rest(everything(reads, writes), everything(reads, other)), everything(writes, other))
            self.assertEqual(left_rest(everything(reads, writes), nothing(other, writes)), nothing(other, reads))
            self.assertRaisesThis(InvalidOperation, None, left_rest, nothing(reads, writes), nothing(other, 3 - writes))
            self.assertRaisesThis(InvalidOperation, None, right_rest, nothing(reads, writes), nothing(3 - reads, other))

    def test_too_many(self):
        few, many = branched_table(11, (9, 13, 17)), branched_table(12, (9, 13, 17))
        self.assertEqual(left_rest(everything(1, 2), ~few), nothing(1, 1))
        self.assertTooMany(2000, left_rest, everything(1, 2), ~many)
        self.assertEqual(right_rest(turned(few), nothing(2, 1)), nothing(1, 1))
        self.assertTooMany(2000, right_rest, turned(many), nothing(2, 1))
        self.assertTooMany(60, left_rest, round_table(7, 3), ~round_table(9, 2))
        self.assertTooMany(60, right_rest, round_table(7, 3), ~round_table(9, 2))

    def test_wrong_arguments(self):
        wrong = (InvalidTable, wrong_tables())
        self.check_wrong(left_rest, (O, F), wrong, wrong)
        self.check_wrong(right_rest, (O, F), wrong, wrong)
        self.assertRaisesThis(InvalidTable, None, left_rest, everything(1, 2), 7)
        self.assertRaisesThis(InvalidTable, None, right_rest, everything(2, 1), None)


class SimpleTablesTest(Checked):

    def test_all_pairs_of_small_widths(self):
        for reads, writes in product((1, 2), repeat=2):
            none, whole = self.answer(nothing, reads, writes), self.answer(everything, reads, writes)
            self.assertEqual(none.rows, ((False, (0,) * 2 ** (reads + writes)),))
            self.assertEqual(whole.rows, ((True, (0,) * 2 ** (reads + writes)),))
            for width in range(3):
                self.assertEqual(oracles.pairs_of(none, width), [])
                right = list(product(oracles.texts(2 ** reads, width), oracles.texts(2 ** writes, width)))
                self.assertEqual(oracles.pairs_of(whole, width), right)

    def test_same(self):
        for reads in (1, 2):
            table = self.answer(same, reads)
            self.assertEqual((table.reads, table.writes), (reads, reads))
            for width in range(3):
                self.assertEqual(list(table.pairs(width)), [(text, text) for text in oracles.texts(2 ** reads, width)])

    def test_letterwise(self):
        for reads, writes in product((1, 2), repeat=2):
            letters = list(product(range(2 ** reads), range(2 ** writes)))
            for seed in range(20):
                pairs = tuple([pair for at, pair in enumerate(letters) if (seed * 7919 + 1) >> at % 12 & 1])
                table = self.answer(letterwise, reads, writes, pairs)
                self.assertEqual(letterwise(reads, writes, pairs[::-1]), table)
                self.assertIs(("", "") in table, True)
                for width in range(3):
                    right = sorted([("".join([str(x) for x, y in way]), "".join([str(y) for x, y in way]))
                                    for way in product(pairs, repeat=width)])
                    self.assertEqual(oracles.pairs_of(table, width), right)
            self.assertEqual(letterwise(reads, writes, tuple(letters)), everything(reads, writes))

    def test_wrong_arguments(self):
        lines = (InvalidNumber, wrong_numbers(1, 2))
        self.check_wrong(nothing, (1, 2), lines, lines)
        self.check_wrong(everything, (2, 1), lines, lines)
        self.check_wrong(same, (2,), lines)
        pairs = [((0, 0), (0, 0)), ((0, 0), (1, 1), (0, 0)), ((2, 0),), ((0, 2),), ((-1, 0),), ((0, -1),), ((0,),),
                 ((0, 0, 0),), ([0, 0],), [(0, 0)], ((True, 0),), ((0, False),), ((None, 0),), (("0", "0"),), ("00",),
                 ((0, 10 ** 60),), ((0, C),), {(0, 0): 0}, ((0, 0), 0), ((0, 0), None), (0, 0)]
        self.check_wrong(letterwise, (1, 1, ((0, 0), (1, 1))), lines, lines,
                         (InvalidOperation, pairs + [value for value in strangers() if value != ()]))
        self.assertRaisesThis(InvalidOperation, None, letterwise, 1, 2, ((2, 0),))
        self.assertRaisesThis(InvalidOperation, None, letterwise, 2, 1, ((0, 2),))


class NotTrueTest(Checked):
    """Statements about tables that point 0.18 denies."""

    def test_the_same_first_answers_and_numbers_do_not_make_equal_tables(self):
        one = letterwise(1, 2, ((0, 0), (1, 0), (1, 1)))
        other = letterwise(1, 2, ((0, 0), (1, 0), (1, 2)))
        for width in range(4):
            for question in oracles.texts(2, width):
                answers = [answer for asked, answer in one.pairs(width) if asked == question]
                others = [answer for asked, answer in other.pairs(width) if asked == question]
                self.assertEqual((answers[0], len(answers)), (others[0], len(others)))
        self.assertIs(one == other, False)

    def test_the_greatest_number_of_answers_can_fall(self):
        table = Table.told(1, 1, ((False, (1, 1, 2, 2)), (True, (3, 2, 2, 2)), (False, (2, 2, 2, 2)),
                                  (True, (2, 2, 2, 2))))
        self.assertEqual([len(list(table.pairs(width))) for width in range(4)], [0, 2, 2, 0])
        answers = [max([0] + [len([pair for pair in table.pairs(width) if pair[0] == question])
                              for question in oracles.texts(2, width)]) for width in range(4)]
        self.assertEqual(answers, [0, 2, 2, 0])

    def test_tables_need_not_grow_alike_turned(self):
        table = letterwise(1, 1, ((0, 0), (1, 0)))
        for width in range(4):
            self.assertEqual(len(list(table.pairs(width))), 2 ** width)
            self.assertEqual({answer for question, answer in table.pairs(width)}, {"0" * width})
            self.assertEqual(len({question for question, answer in table.pairs(width)}), 2 ** width)
