"""Points 6.1 to 6.3: how many answers and pairs there are, and recurrences."""

from itertools import islice

from mayrows.count import counts
from mayrows.count.counts import count_answers, count_pairs, is_recurrence, pair_counts, recurrence
from mayrows.errors import InvalidNumber, InvalidTable, InvalidText
from mayrows.table.calculus import everything, letterwise, nothing
from mayrows.table.tables import Table
from tests import counting, oracles
from tests.checking import Checked, spoilt, strangers, wrong_numbers, wrong_tables, wrong_texts
from tests.samples import COPY, FREE, LATE, ODD, ONCE, beats_table, random_table, round_table, widths_table

C, F, O, L = Table.of(COPY), Table.of(FREE), Table.of(ONCE), Table.of(LATE)


def tables(many=60):
    """Tables of all numbers of lines, also such without pairs and with all."""
    for seed in range(many):
        yield random_table(seed, 1 + seed % 2, 1 + seed // 2 % 2, 1 + seed % 5)
    for reads, writes in ((1, 1), (1, 2), (2, 1), (2, 2)):
        yield from [nothing(reads, writes), everything(reads, writes), letterwise(reads, writes, ((1, 0), (0, 1)))]
    yield from [Table.of(row) for row in (COPY, FREE, ONCE, LATE, ODD)]


class ExamplesTest(Checked):

    def test_answers(self):
        self.assertEqual([count_answers(O, "0110"), count_answers(F, "0110"), count_answers(L, "0110")], [3, 4, 1])

    def test_pairs(self):
        self.assertEqual([count_pairs(O, 3), list(pair_counts(O, 4)), list(pair_counts(F, 3))],
                         [20, [1, 3, 8, 20, 48], [1, 3, 9, 27]])

    def test_recurrences(self):
        self.assertEqual([is_recurrence(O, value) for value in ((4, -4), (4,), (3, 0, -4), (3, 0, -4, 1))],
                         [True, False, True, False])
        self.assertEqual([is_recurrence(C, (2,)), is_recurrence(C, ()), is_recurrence(nothing(1, 1), ())],
                         [True, False, True])

    def test_constants(self):
        self.assertEqual((counts.MAX_USEFUL, counts.MAX_TERMS), (20, 200))


class AnswersTest(Checked):

    def test_all_questions_of_small_widths(self):
        for table in tables():
            for question in counting.questions_to(table, counting.small(table)):
                found = self.answer(count_answers, table, question)
                self.assertEqual(found, len(counting.answers(table, question)))
                self.assertIs(type(found), int)

    def test_wide_questions(self):
        self.assertEqual(count_answers(F, "1" * 200), 2 ** 200)
        self.assertEqual(count_answers(O, "1" * 200), 201)
        self.assertEqual(count_answers(everything(2, 2), "0123" * 50), 4 ** 200)
        self.assertEqual(count_answers(nothing(2, 2), "0123" * 50), 0)

    def test_the_empty_question(self):
        self.assertEqual([count_answers(table, "") for table in (C, Table.of(ODD), nothing(1, 1))], [1, 0, 0])


class PairsTest(Checked):

    def test_all_pairs_of_small_widths(self):
        for table in tables():
            for width in range(counting.small(table) + 1):
                self.assertEqual(self.answer(count_pairs, table, width), len(oracles.pairs_of(table, width)))

    def test_all_widths(self):
        for table in tables(12):
            expected = counting.pair_counts(table, 201)
            self.assertEqual(list(pair_counts(table, 200)), expected)
            self.assertEqual(list(pair_counts(table, 200)), expected)
            for width in (0, 1, 57, 200):
                self.assertEqual(count_pairs(table, width), expected[width])
                self.assertEqual(list(pair_counts(table, width)), expected[:width + 1])

    def test_numbers_of_more_than_sixty_digits(self):
        self.assertEqual(count_pairs(everything(2, 2), 200), 16 ** 200)
        self.assertEqual(list(pair_counts(round_table(60, 59, 2, 2), 119))[-1], 16 ** 119)

    def test_one_number_after_the_other(self):
        self.assertEqual(list(islice(pair_counts(everything(2, 2), 200), 3)), [1, 16, 256])
        numbers = pair_counts(F, 2)
        self.assertEqual([next(numbers), next(numbers), next(numbers), next(numbers, None)], [1, 3, 9, None])
        self.assertEqual(list(pair_counts(C, 0)), [1])


class RecurrencesTest(Checked):

    def test_told_recurrences_are_right(self):
        for table in tables():
            found = self.answer(recurrence, table)
            self.assertLessEqual(len(found), len(oracles.useful(table)))
            self.assertIs(counting.is_recurrence(table, found, 60), True)
            self.assertIs(self.answer(is_recurrence, table, found), True)

    def test_tables_without_pairs(self):
        for reads, writes in ((1, 1), (2, 2)):
            self.assertEqual(recurrence(nothing(reads, writes)), ())
            for value in ((), (0,), (7, -7), (10 ** 60 - 1,) * 200):
                self.assertIs(is_recurrence(nothing(reads, writes), value), True)

    def test_the_empty_recurrence(self):
        for table in tables(40):
            self.assertIs(is_recurrence(table, ()), not table)

    def test_other_recurrences(self):
        # With 4 * p(n - 1) - 4 * p(n - 2) each multiple of the difference can be added, one width later.
        for factor in (-5, -1, 1, 2, 10 ** 50):
            self.assertIs(is_recurrence(O, (4 + factor, -4 - 4 * factor, 4 * factor)), True)
            self.assertIs(is_recurrence(O, (4 + factor, -4 - 4 * factor, 4 * factor + 1)), False)
        # It has three useful states, but a shorter recurrence [0.18].
        self.assertEqual(len(oracles.useful(L)), 3)
        self.assertIs(is_recurrence(L, (2,)), True)
        self.assertIs(is_recurrence(L, (2, 0)), True)
        self.assertIs(is_recurrence(L, (3, -2)), True)
        self.assertIs(is_recurrence(L, (3, -1)), False)
        self.assertIs(is_recurrence(beats_table(0, 2), (0, 8)), True)

    def test_an_equation_that_fails_late(self):
        # The widths 0 to 58 have no pairs, and so the equation fails at the width 59 only.
        table = round_table(60, 59)
        self.assertIs(is_recurrence(table, (4,)), False)
        self.assertIs(is_recurrence(table, ()), False)
        self.assertIs(is_recurrence(table, (0,) * 59 + (1,)), False)
        self.assertIs(is_recurrence(table, (0,) * 59 + (4 ** 60,)), True)
        self.assertIs(is_recurrence(table, (0,) * 119), False)
        self.assertIs(is_recurrence(table, (0,) * 59 + (4 ** 60, 0, 0)), True)
        self.assertIs(is_recurrence(table, (0,) * 58 + (1, 4 ** 60)), False)

    def test_widths_beyond_200(self):
        # A recurrence of 200 integers is about the widths from 200 on.
        value = (4, -4) + (0,) * 198
        self.assertIs(is_recurrence(O, value), True)
        self.assertIs(is_recurrence(O, value[:-1]), True)
        self.assertIs(is_recurrence(O, value + (0,)), False)
        self.assertIs(is_recurrence(O, (0,) * 199 + (1,)), False)
        # Pairs of widths below 200 only: from 200 on each equation holds if it does not look back so far.
        few = widths_table([at < 59 for at in range(60)])
        self.assertIs(is_recurrence(few, (0,) * 58), False)
        self.assertIs(is_recurrence(few, (0,) * 59), True)
        self.assertIs(is_recurrence(few, (0,) * 199 + (1,)), False)
        self.assertIs(is_recurrence(few, (5,) * 141 + (0,) * 59), True)
        self.assertIs(is_recurrence(few, (5,) * 142 + (0,) * 58), False)
        self.assertIs(is_recurrence(nothing(1, 1), (1,) * 200), True)
        self.assertIs(is_recurrence(nothing(1, 1), (1,) * 201), False)

    def test_integers_of_sixty_digits(self):
        for term in (10 ** 60 - 1, 1 - 10 ** 60, 0, -1):
            self.assertIs(is_recurrence(nothing(1, 1), (1, term)), True)
        for term in (10 ** 60, -10 ** 60, 10 ** 99, -10 ** 5000, True, False, None, "1", (1,), [1]):
            self.assertIs(is_recurrence(nothing(1, 1), (1, term)), False)
            self.assertIs(is_recurrence(nothing(1, 1), (term,)), False)

    def test_twenty_useful_states_and_one_more(self):
        for many in (1, 19, 20):
            for lasts in ([at == many - 1 for at in range(many + 1)], [at < many for at in range(many + 1)]):
                table = widths_table(lasts)
                self.assertEqual(len(oracles.useful(table)), many)
                found = self.answer(recurrence, table)
                self.assertIs(is_recurrence(table, found), True)
                self.assertLessEqual(len(found), many)
        for many in (21, 22, 59):
            table = widths_table([at == many - 1 for at in range(many + 1)])
            self.assertEqual(len(oracles.useful(table)), many)
            self.assertTooMany(20, recurrence, table)
            self.assertIs(is_recurrence(table, (0,) * many), True)
            self.assertIs(is_recurrence(table, (0,) * (many - 1)), False)
        self.assertEqual(len(round_table(20, 3)), 20)
        self.assertIs(is_recurrence(round_table(20, 3), recurrence(round_table(20, 3))), True)
        self.assertTooMany(20, recurrence, round_table(21, 3))

    def test_the_greatest_integers(self):
        for seed in range(6):
            table = random_table(seed, 2, 2, 20)
            found = recurrence(table)
            self.assertTrue(all([abs(term) < 10 ** 60 for term in found]))
            self.assertIs(is_recurrence(table, found), True)
            self.assertIs(counting.is_recurrence(table, found, 60), True)

    def test_spoilt_recurrences(self):
        wrong = 0
        for table in tables(12):
            for value in spoilt(recurrence(table)):
                right = counting.is_recurrence(table, value, 60)
                wrong += not right
                self.assertIs(is_recurrence(table, value), right, value)
        self.assertGreater(wrong, 300)

    def test_any_value_can_be_judged(self):
        for part in strangers() + [10 ** 5000, "1" * 5000]:
            for value in (part, (part,), (4, part), (part, -4), [part], ((part,),)):
                for table in (O, C, nothing(2, 1)):
                    self.assertIs(is_recurrence(table, value), counting.is_recurrence(table, value, 60), value)


class ErrorsTest(Checked):

    def test_wrong_arguments(self):
        wrong = (InvalidTable, wrong_tables())
        for table in (O, everything(2, 1)):
            self.check_wrong(count_answers, (table, "01"), wrong, (InvalidText, wrong_texts(2 ** table.reads)))
        self.check_wrong(count_pairs, (O, 3), wrong, (InvalidNumber, wrong_numbers(0, 200)))
        self.check_wrong(recurrence, (O,), wrong)
        self.check_wrong(lambda table: is_recurrence(table, ()), (O,), wrong)
        for value in strangers():
            self.assertRaisesThis(InvalidTable, None, is_recurrence, None, value)

    def test_a_generator_raises_when_it_is_asked(self):
        for error, table, width in ((InvalidTable, None, 300), (InvalidNumber, O, 201), (InvalidNumber, O, True)):
            numbers = pair_counts(table, width)
            self.assertRaisesThis(error, width, lambda: next(numbers))
        self.check_wrong(lambda table, width: list(pair_counts(table, width)), (O, 3), (InvalidTable, wrong_tables()),
                         (InvalidNumber, wrong_numbers(0, 200)))

    def test_widths_0_200_and_201(self):
        self.assertEqual((count_pairs(C, 0), count_pairs(C, 200)), (1, 2 ** 200))
        for width in (201, -1, True, "1", None, 1.0):
            self.assertRaisesThis(InvalidNumber, width, count_pairs, C, width)
