"""Points 7.6 and 7.7: papers on the answers of a plain row and those of a table."""

from itertools import product

from mayrows.count.vectors import least_with
from mayrows.errors import InvalidOperation, InvalidPasses, InvalidTable
from mayrows.least.passes import (Passes, first_paper, graph_of, is_first_paper, is_pass_paper, pass_paper, plain_row)
from mayrows.table.calculus import everything, nothing
from mayrows.table.tables import Table
from tests import counting, oracles
from tests.checking import Checked, spoilt, strangers, wrong_passes, wrong_tables
from tests.samples import (COPY, FREE, LATE, ONCE, PARITY, beats_table, last_passes, random_passes, random_table,
                           round_table)

C, F, O, L = Table.of(COPY), Table.of(FREE), Table.of(ONCE), Table.of(LATE)
SAME = Passes.by_letters(1, 1, (0, 1))
JUDGES = ((is_pass_paper, counting.is_pass_paper), (is_first_paper, counting.is_first_paper))


def couples(many=40):
    """Plain rows and tables with equally many lines; some of these have the first answers, or other ones."""
    for seed in range(many):
        reads, writes, most = 1 + seed % 2, 1 + seed // 2 % 2, 1 + seed % 3
        row, table = random_passes(seed, reads, writes, most), random_table(seed, reads, writes, most)
        yield from [(row, table), (row, graph_of(row)), (row, table | graph_of(row)), (row, everything(reads, writes)),
                    (row, nothing(reads, writes))]
        yield from [(plain_row(table, place), table) for place in (0, 1)]


def widths_passes(many, width, letter):
    """A plain row that answers the questions of this width, or of one that differs by a multiple of `many`.

    It writes this letter at all places.
    """
    rights = tuple([((at + 1) % many,) * 2 for at in range(many)])
    return Passes(1, 1, rights, (width % many,), ((((letter, 0),) * many,) * 2,))


def answered(row, table):
    """For each small question that the plain row answers: the question, its answer, and those of the table."""
    return [(question, counting.plain_answer(row, question), counting.answers(table, question))
            for question in counting.questions_to(row, counting.small(row))
            if counting.plain_answer(row, question) is not None]


class ExamplesTest(Checked):

    def test_papers(self):
        self.assertEqual([is_pass_paper(PARITY, F, ("wrong", "01")), is_pass_paper(SAME, F, ("within", ((0, 0, 0),))),
                          is_first_paper(SAME, F, ("ahead", "1", "0"))], [True, True, True])


class PassPaperTest(Checked):

    def test_told_papers_are_right(self):
        kinds = {"within": 0, "wrong": 0}
        for row, table in couples():
            paper = self.answer(pass_paper, row, table)
            kinds[paper[0]] += 1
            self.assertIs(counting.is_pass_paper(row, table, paper), True)
            self.assertIs(self.answer(is_pass_paper, row, table, paper), True)
            if any(said not in answers for _, said, answers in answered(row, table)):
                self.assertEqual(paper[0], "wrong")
        self.assertGreater(min(kinds.values()), 50)

    def test_rows_within_their_tables(self):
        for row, table in couples(20):
            self.assertEqual(pass_paper(row, graph_of(row))[0], "within")
            self.assertEqual(pass_paper(row, graph_of(row) | table)[0], "within")

    def test_any_wrong_question_is_a_paper(self):
        for row, table in couples(20):
            for question in counting.questions_to(row, 3):
                said = counting.plain_answer(row, question)
                wrong = said is not None and said not in counting.answers(table, question)
                self.assertIs(is_pass_paper(row, table, ("wrong", question)), wrong)

    def test_any_closed_triples_are_a_paper(self):
        for row, table in couples(30):
            for made in (counting.least_closed, counting.greatest_closed):
                value = ("within", made(row, table, 3))
                self.assertIs(is_pass_paper(row, table, value), counting.is_pass_paper(row, table, value))
            greatest = ("within", counting.greatest_closed(row, table, 3))
            self.assertIs(is_pass_paper(row, table, greatest), pass_paper(row, table)[0] == "within")

    def test_right_states_that_are_not_met(self):
        # No text has the right state 1 or 2: triples with it are closed by themselves.
        row = Passes(1, 1, ((0, 0), (2, 1), (0, 2)), (0, 1), ((((0, 0),) * 3, ((1, 0),) * 3),))
        self.assertEqual(pass_paper(row, F), ("within", ((0, 0, 0),)))
        for more in ((0, 0, 1), (0, 1, 1), (0, 1, 2)):
            self.assertIs(is_pass_paper(row, F, ("within", ((0, 0, 0), more))), True)
        self.assertIs(is_pass_paper(row, F, ("within", ((0, 0, 0), (0, 0, 3)))), False)
        self.assertIs(is_pass_paper(row, F, ("within", ((0, 0, 0), (0, 1, 0)))), False)
        self.assertIs(is_pass_paper(row, F, ("within", ((0, 0, 1),))), False)

    def test_empty_starts(self):
        row = Passes(1, 1, PARITY.rights, (), PARITY.lefts)
        for table in (nothing(1, 1), O):
            self.assertEqual(pass_paper(row, table), ("within", ()))
            self.assertIs(is_pass_paper(row, table, ("within", ())), True)
            self.assertEqual(first_paper(row, table), ("first", ()))
            self.assertIs(is_first_paper(row, table, ("first", ())), True)
        self.assertIs(is_pass_paper(PARITY, everything(1, 1), ("within", ())), False)

    def test_5000_triples_and_one_more(self):
        few, many = (last_passes(1, 59), beats_table(0, 42)), (last_passes(0, 59), beats_table(1, 42))
        self.assertEqual([len(counting.least_closed(*both, 3)) for both in (few, many)], [5000, 5001])
        kind, triples = self.answer(pass_paper, *few)
        self.assertEqual((kind, len(triples)), ("within", 5000))
        self.assertIs(is_pass_paper(*few, (kind, triples)), True)
        self.assertTooMany(5000, pass_paper, *many)
        self.assertIs(is_pass_paper(*many, ("within", counting.least_closed(*many, 3))), False)

    def test_a_wrong_answer_counts_ahead_of_too_many_triples(self):
        row, whole = last_passes(0, 59), beats_table(1, 42)
        self.assertTooMany(5000, pass_paper, row, whole)
        for width in (0, 1, 2, 30, 42):
            wrong = oracles.end_state(whole, "0" * width, "0" * width)
            table = Table.told(1, 1, tuple([(last and state != wrong, nexts)
                                            for state, (last, nexts) in enumerate(whole.rows)]))
            self.assertEqual(self.answer(pass_paper, row, table), ("wrong", "0" * width))

    def test_wrong_questions_of_more_than_200_letters(self):
        for width in (199, 200, 201, 202):
            row, table = widths_passes(29, width, 0), ~round_table(7, width % 7)
            if width <= 200:
                self.assertEqual(pass_paper(row, table), ("wrong", "0" * width))
            else:
                self.assertTooMany(200, pass_paper, row, table)
            self.assertIs(is_pass_paper(row, table, ("wrong", "0" * width)), width <= 200)

class FirstPaperTest(Checked):

    def test_told_papers_are_right(self):
        kinds = {"first": 0, "ahead": 0}
        for row, table in couples():
            paper = self.answer(first_paper, row, table)
            kinds[paper[0]] += 1
            self.assertIs(counting.is_first_paper(row, table, paper), True)
            self.assertIs(self.answer(is_first_paper, row, table, paper), True)
            if any(answers and answers[0] < said for _, said, answers in answered(row, table)):
                self.assertEqual(paper[0], "ahead")
        self.assertGreater(min(kinds.values()), 50)

    def test_first_answers(self):
        for row, table in couples(20):
            self.assertEqual(first_paper(plain_row(table, 0), table)[0], "first")
            if counting.is_too_much(table, 1):
                continue
            expected = "first" if least_with(table, 2, at_least=True) is None else "ahead"
            self.assertEqual(first_paper(plain_row(table, 1), table)[0], expected)

    def test_an_answer_of_the_row_need_not_be_one_of_the_table(self):
        self.assertEqual(first_paper(SAME, nothing(1, 1))[0], "first")
        self.assertEqual(first_paper(Passes.by_letters(1, 1, (0, 0)), everything(1, 1))[0], "first")
        self.assertIs(is_first_paper(Passes.by_letters(1, 1, (1, 1)), C, ("ahead", "0", "0")), True)

    def test_any_pair_ahead_is_a_paper(self):
        for row, table in couples(20):
            for question in counting.questions_to(row, 2):
                said = counting.plain_answer(row, question)
                for answer in oracles.texts(2 ** row.writes, len(question)):
                    ahead = said is not None and answer in counting.answers(table, question) and answer < said
                    self.assertIs(is_first_paper(row, table, ("ahead", question, answer)), ahead)
        self.assertIs(is_first_paper(SAME, F, ("ahead", "11", "0")), False)

    def test_any_closed_quadruples_are_a_paper(self):
        for row, table in couples(30):
            for made in (counting.least_closed, counting.greatest_closed):
                value = ("first", made(row, table, 4))
                self.assertIs(is_first_paper(row, table, value), counting.is_first_paper(row, table, value))
            greatest = ("first", counting.greatest_closed(row, table, 4))
            self.assertIs(is_first_paper(row, table, greatest), first_paper(row, table)[0] == "first")

    def test_marks_are_0_and_1(self):
        zeros = Passes.by_letters(1, 1, (0, 0))
        for row, table in ((zeros, F), (zeros, C), (SAME, C)):
            least = counting.least_closed(row, table, 4)
            for mark in (-1, 2, 3, 10 ** 60):
                for node in product((0,), range(len(table)), (0,), (mark,)):
                    value = ("first", tuple(sorted(least + (node,))))
                    self.assertIs(is_first_paper(row, table, value), False)
            for node in product((0,), range(len(table)), (0,), (0, 1)):
                value = ("first", tuple(sorted(set(least + (node,)))))
                self.assertIs(is_first_paper(row, table, value), counting.is_first_paper(row, table, value))

    def test_5000_quadruples_and_one_more(self):
        few, many = (last_passes(1, 59), beats_table(0, 42)), (last_passes(0, 59), beats_table(1, 42))
        self.assertEqual([len(counting.least_closed(*both, 4)) for both in (few, many)], [5000, 5001])
        kind, quadruples = self.answer(first_paper, *few)
        self.assertEqual((kind, len(quadruples)), ("first", 5000))
        self.assertIs(is_first_paper(*few, (kind, quadruples)), True)
        self.assertTooMany(5000, first_paper, *many)
        self.assertIs(is_first_paper(*many, ("first", counting.least_closed(*many, 4))), False)

    def test_a_pair_ahead_counts_ahead_of_too_many_quadruples(self):
        row, table = last_passes(0, 59), beats_table(1, 42)
        lefts = tuple([tuple([tuple([(1, following) for _, following in entry]) for entry in left])
                       for left in row.lefts])
        self.assertEqual(first_paper(Passes(1, 1, row.rights, row.starts, lefts), table), ("ahead", "0", "0"))

    def test_pairs_ahead_of_more_than_200_letters(self):
        for width in (199, 200, 201, 202):
            row, table = widths_passes(29, width, 1), round_table(7, width % 7)
            if width <= 200:
                self.assertEqual(first_paper(row, table), ("ahead", "0" * width, "0" * width))
            else:
                self.assertTooMany(200, first_paper, row, table)
            self.assertIs(is_first_paper(row, table, ("ahead", "1" * width, "1" * (width - 1) + "0")), width <= 200)

class JudgedTest(Checked):

    def test_spoilt_papers(self):
        wrong = 0
        for row, table in list(couples(6)):
            for told, (judge, oracle) in zip((pass_paper, first_paper), JUDGES):
                paper = told(row, table)
                if len(str(paper)) > 400:
                    continue
                for value in spoilt(paper):
                    right = oracle(row, table, value)
                    wrong += not right
                    self.assertIs(judge(row, table, value), right, value)
        self.assertGreater(wrong, 1000)

    def test_any_value_can_be_judged(self):
        for part in strangers() + [10 ** 5000, "1" * 5000]:
            for value in (part, (part,), ("within", part), ("within", (part,)), ("within", ((0, 0, part),)),
                          ("within", ((0, 0, 0), part)), ("wrong", part), (part, "1"), ("first", part),
                          ("first", ((0, 0, 0, part),)), ("first", ((0, 0, 0, 0), part)), ("ahead", part, "0"),
                          ("ahead", "1", part), (part, "1", "0"), (part, ((0, 0, 0),)), (part, ((0, 0, 0, 0),)),
                          ("within", ((0, 0, 0),), part), ("wrong", "1", part)):
                for row, table in ((SAME, F), (SAME, C), (PARITY, O)):
                    for judge, oracle in JUDGES:
                        self.assertIs(judge(row, table, value), oracle(row, table, value), value)

    def test_booleans_are_no_states(self):
        self.assertIs(is_pass_paper(SAME, F, ("within", ((0, 0, 0),))), True)
        self.assertIs(is_pass_paper(SAME, F, ("within", ((0, False, 0),))), False)
        zeros = Passes.by_letters(1, 1, (0, 0))
        self.assertIs(is_first_paper(zeros, F, ("first", ((0, 0, 0, 0),))), True)
        self.assertIs(is_first_paper(zeros, F, ("first", ((0, 0, 0, False),))), False)

    def test_papers_of_the_other_kind(self):
        self.assertIs(is_first_paper(SAME, F, pass_paper(SAME, F)), False)
        self.assertIs(is_pass_paper(SAME, F, first_paper(SAME, F)), False)
        self.assertIs(is_pass_paper(SAME, F, ("wrong", "1")), False)
        self.assertIs(is_pass_paper(SAME, F, ("within", ())), False)


class ErrorsTest(Checked):

    def test_wrong_arguments(self):
        wrong = [(InvalidPasses, wrong_passes()), (InvalidTable, wrong_tables())]
        for function in (pass_paper, first_paper):
            self.check_wrong(function, (SAME, F), *wrong)
        for function in (is_pass_paper, is_first_paper):
            self.check_wrong(lambda row, table: function(row, table, None), (SAME, F), *wrong)

    def test_unlike_lines(self):
        for reads in (1, 2):
            for writes in (1, 2):
                row = Passes.by_letters(reads, writes, (0,) * 2 ** reads)
                for table in (everything(1, 1), everything(1, 2), everything(2, 1), everything(2, 2)):
                    fits = (table.reads, table.writes) == (reads, writes)
                    for function in (pass_paper, first_paper):
                        if fits:
                            function(row, table)
                        else:
                            self.assertRaisesThis(InvalidOperation, None, function, row, table)
                    for function in (is_pass_paper, is_first_paper):
                        if not fits:
                            self.assertRaisesThis(InvalidOperation, None, function, row, table, None)
        self.assertRaisesThis(InvalidTable, None, pass_paper, Passes.by_letters(2, 2, (0,) * 4), None)
