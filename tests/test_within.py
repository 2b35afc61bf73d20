"""Point 3.4: one table within another, the least pair that parts them, and papers."""

from itertools import product

from mayrows.errors import InvalidOperation, InvalidTable
from mayrows.table.calculus import everything, nothing
from mayrows.table.tables import Table
from mayrows.table.within import is_within, is_within_paper, parting, within_paper
from tests import oracles
from tests.checking import Checked, spoilt, strangers, wrong_tables
from tests.samples import COPY, FREE, LATE, ONCE, random_table, round_table, widths_table

C, F, O, L = Table.of(COPY), Table.of(FREE), Table.of(ONCE), Table.of(LATE)
# Their pairs have the width 59 * 60 - 1 and more: each pair of the first one is wide, but the second one has all others.
WIDE, ALL_BUT_WIDE = round_table(59, 58), ~round_table(60, 59)


def couples(many=40, states=3):
    """Couples of tables with equally many lines."""
    for seed in range(many):
        reads, writes = 1 + seed % 2, 1 + seed // 2 % 2
        one, other = random_table(seed, reads, writes, states), random_table(1000 + seed, reads, writes, states)
        yield from [(one, other), (one & other, other), (one, one | other), (one, one)]


class ExamplesTest(Checked):

    def test_within_and_parting(self):
        self.assertEqual([is_within(O, F), is_within(F, O), parting(F, O), parting(C, L), parting(L, F),
                          parting(C, Table.of(COPY))],
                         [True, False, ("11", "11"), ("1", "0"), ("1", "1"), None])

    def test_papers(self):
        self.assertEqual((within_paper(F, C)[0], is_within_paper(F, C, ("beyond", "101", "001")),
                          is_within_paper(F, C, ("beyond", "101", "101"))), ("beyond", True, False))
        self.assertEqual([is_within_paper(O, F, ("within", ((0, 0), (1, 0), (1, 1), (2, 0)))),
                          is_within_paper(O, F, ("within", ((0, 0), (1, 1), (2, 0))))], [True, False])


class WithinTest(Checked):

    def test_all_pairs_of_small_widths(self):
        for one, other in couples():
            # Tables of so few states differ in a narrow pair, if they differ.
            most = 5 if one.reads + one.writes == 2 else 2
            pairs, others = oracles.pairs_to(one, most), oracles.pairs_to(other, most)
            missing = [pair for pair in pairs if pair not in others]
            if one.reads + one.writes == 2 or missing:
                self.assertIs(self.answer(is_within, one, other), not missing)

    def test_the_least_pair_that_parts(self):
        for one, other in couples():
            most = 5 if one.reads + one.writes == 2 else 2
            apart = [pair for width in range(most + 1)
                     for pair in sorted(set(oracles.pairs_of(one, width)) ^ set(oracles.pairs_of(other, width)))]
            found = self.answer(parting, one, other)
            if apart:
                self.assertEqual(found, apart[0])
            elif one.reads + one.writes == 2:
                self.assertIsNone(found)
            self.assertEqual(self.answer(parting, other, one), found)
            self.assertIs(found is None, one == other)

    def test_the_question_counts_ahead_of_the_answer(self):
        # The pairs ("00", "10") and ("01", "00") part the tables, and the first one of these is the least one.
        rows = [(False, (1, 3, 4, 4)), (False, (4, 4, 2, 4)), (True, (4, 4, 4, 4)), (False, (2, 4, 4, 4)),
                (False, (4, 4, 4, 4))]
        table = Table.told(1, 1, tuple(rows))
        self.assertEqual(list(table.pairs(2)), [("00", "10"), ("01", "00")])
        self.assertEqual(parting(table, nothing(1, 1)), ("00", "10"))
        self.assertEqual(within_paper(table, nothing(1, 1))[0], "beyond")

    def test_the_tables_without_pairs_and_with_all(self):
        for reads, writes in product((1, 2), repeat=2):
            none, whole = nothing(reads, writes), everything(reads, writes)
            self.assertEqual((is_within(none, whole), is_within(whole, none), is_within(none, none)),
                             (True, False, True))
            self.assertEqual((parting(none, whole), parting(whole, none), parting(none, none)),
                             (("", ""), ("", ""), None))

    def test_pairs_that_are_wide(self):
        for width in (57, 58):
            lasts = [k == width for k in range(60)]
            self.assertEqual(parting(widths_table(lasts), nothing(1, 1)), ("0" * width, "0" * width))
        self.assertEqual(parting(round_table(59, 58), round_table(60, 59)), ("0" * 58, "0" * 58))

    def test_is_within_of_wide_pairs(self):
        self.assertIs(self.answer(is_within, WIDE, ALL_BUT_WIDE), False)
        self.assertIs(self.answer(is_within, WIDE, everything(1, 1)), True)


class PapersTest(Checked):

    def test_told_papers_are_right(self):
        for one, other in couples():
            paper = self.answer(within_paper, one, other)
            self.assertEqual(paper[0], "within" if is_within(one, other) else "beyond")
            self.assertIs(oracles.is_within_paper(one, other, paper), True)
            self.assertIs(self.answer(is_within_paper, one, other, paper), True)

    def test_any_pair_beyond_is_a_paper(self):
        for one, other in couples(20):
            for width in range(3):
                for question, answer in product(oracles.texts(2 ** one.reads, width),
                                                oracles.texts(2 ** one.writes, width)):
                    value = ("beyond", question, answer)
                    right = oracles.has_pair(one, question, answer) and not oracles.has_pair(other, question, answer)
                    self.assertIs(is_within_paper(one, other, value), right)

    def test_any_closed_pairs_are_a_paper(self):
        for one, other in couples(20):
            # All pairs of states from which the first table has no pair that the second one has not.
            kept = set(product(range(len(one)), range(len(other))))
            while True:
                good = {(p, q) for p, q in kept if (other.rows[q][0] or not one.rows[p][0])
                        and all(nexts in kept for nexts in zip(one.rows[p][1], other.rows[q][1]))}
                if good == kept:
                    break
                kept = good
            value = ("within", tuple(sorted(kept)))
            self.assertIs(is_within_paper(one, other, value), is_within(one, other))
            self.assertIs(oracles.is_within_paper(one, other, value), is_within(one, other))

    def test_spoilt_papers(self):
        wrong = 0
        for one, other in couples(6):
            for value in spoilt(within_paper(one, other)):
                right = oracles.is_within_paper(one, other, value)
                wrong += not right
                self.assertIs(is_within_paper(one, other, value), right, value)
        self.assertGreater(wrong, 1000)

    def test_papers_of_the_wrong_kind(self):
        for one, other in ((O, F), (F, O), (C, C)):
            for value in (within_paper(O, F), within_paper(F, O), ("within", ()), ("within", ((0, 0),)),
                          ("beyond", "", ""), ("beyond", "1" * 201, "0" * 201), ("within",), ("beyond", "11"), (), "within",
                          ("within", ((0, 0), (10 ** 5000, 0))), ("beyond", 10 ** 5000, "0" * 5000)):
                self.assertIs(is_within_paper(one, other, value), oracles.is_within_paper(one, other, value))

    def test_any_value_can_be_judged(self):
        for part in strangers() + [10 ** 5000, "1" * 5000]:
            for value in (part, (part,), ("within", part), ("within", (part,)), ("within", ((part, part),)),
                          ("within", ((0, part),)), ("within", ((0, 0), part)), ("within", ((0, 0), (1, part))),
                          ("beyond", part, part), ("beyond", part, "11"), ("beyond", "11", part),
                          (part, "11", "11"), (part, ((0, 0),)), ("within", ((0, 0),), part)):
                for one, other in ((F, O), (O, F), (everything(1, 1), everything(1, 1))):
                    self.assertIs(is_within_paper(one, other, value), oracles.is_within_paper(one, other, value))

    def test_booleans_are_no_states(self):
        whole = everything(1, 1)
        self.assertIs(is_within_paper(whole, whole, ("within", ((0, 0),))), True)
        self.assertIs(is_within_paper(whole, whole, ("within", ((False, 0),))), False)
        self.assertIs(is_within_paper(whole, whole, ("within", ((0, False),))), False)

    def test_a_pair_of_more_than_200_letters(self):
        self.assertTooMany(200, within_paper, WIDE, ALL_BUT_WIDE)
        self.assertIs(is_within_paper(WIDE, ALL_BUT_WIDE, ("beyond", "0" * 200, "0" * 200)), False)
        # Rounds of 7 and 29 steps meet at 202 letters, and rounds of 3 and 67 steps at 200, but have too many states.
        self.assertTooMany(200, within_paper, round_table(7, 6), ~round_table(29, 28))
        found = within_paper(round_table(7, 4), ~round_table(29, 26))
        self.assertEqual(found, ("beyond", "0" * 200, "0" * 200))
        self.assertTooMany(200, within_paper, round_table(7, 5), ~round_table(29, 27))

    def test_many_pairs(self):
        paper = within_paper(round_table(59, 58), everything(1, 1))
        self.assertEqual(paper, ("within", tuple([(state, 0) for state in range(59)])))
        paper = within_paper(round_table(60, 7), round_table(12, 7))
        self.assertEqual(paper, ("within", tuple([(state, state % 12) for state in range(60)])))
        one, other = round_table(59, 0), round_table(60, 0)
        paper = within_paper(one - everything(1, 1), other)
        self.assertEqual(paper, ("within", tuple([(0, state) for state in range(60)])))
        self.assertIs(is_within_paper(one - everything(1, 1), other, paper), True)
        self.assertIs(is_within_paper(one, other, ("within", tuple(product(range(59), range(60))))), False)


class ErrorsTest(Checked):

    def test_wrong_arguments(self):
        wrong = (InvalidTable, wrong_tables())
        for function in (is_within, parting, within_paper):
            self.check_wrong(function, (O, F), wrong, wrong)
        self.check_wrong(lambda one, other: is_within_paper(one, other, None), (O, F), wrong, wrong)

    def test_unlike_lines(self):
        made = [everything(reads, writes) for reads in (1, 2) for writes in (1, 2)]
        for one, other in product(made, repeat=2):
            for function, rest in ((is_within, ()), (parting, ()), (within_paper, ()), (is_within_paper, (None,))):
                if one == other:
                    function(one, other, *rest)
                else:
                    self.assertRaisesThis(InvalidOperation, None, function, one, other, *rest)

    def test_a_wrong_table_counts_ahead_of_unlike_lines(self):
        self.assertRaisesThis(InvalidTable, None, is_within, nothing(1, 2), None)
        self.assertRaisesThis(InvalidTable, None, is_within, None, nothing(1, 2))
