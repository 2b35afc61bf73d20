"""Points 7.4, 7.5 and 0.14: the table of a plain row, and the plain row of the answers at a place."""

from mayrows.errors import InvalidNumber, InvalidPasses, InvalidTable
from mayrows.least.answers import answer_at
from mayrows.least.graphs import graph_rows
from mayrows.least.passes import Passes, graph_of, plain_row
from mayrows.least.ranks import plain_sides
from mayrows.row.rows import Mayrow
from mayrows.table.calculus import everything, letterwise, nothing
from mayrows.table.tables import Table
from mayrows.table.within import is_within
from tests import counting, oracles
from tests.checking import Checked, wrong_numbers, wrong_passes, wrong_tables
from tests.samples import (COPY, FREE, HALF, LATE, ODD, ONCE, PARITY, SIXTY_ONE_VECTORS, SIXTY_VECTORS,
                           branches_table, letters_table, random_passes, random_table, rings_passes, round_table,
                           widths_table)

C, F, O, L = Table.of(COPY), Table.of(FREE), Table.of(ONCE), Table.of(LATE)


def tables(many=40):
    """Tables of all numbers of lines, also such without pairs and with all."""
    for seed in range(many):
        yield random_table(seed, 1 + seed % 2, 1 + seed // 2 % 2, 1 + seed % 4)
    for reads, writes in ((1, 1), (1, 2), (2, 1), (2, 2)):
        yield from [nothing(reads, writes), everything(reads, writes), letterwise(reads, writes, ((1, 0), (0, 1)))]
    yield from [Table.of(row) for row in (COPY, FREE, ONCE, LATE, ODD, HALF)]


def all_passes(many=60, most=4):
    """Plain rows of all numbers of lines."""
    for seed in range(many):
        yield random_passes(seed, 1 + seed % 2, 1 + seed // 2 % 2, 1 + seed % most)


class ExamplesTest(Checked):

    def test_plain_rows(self):
        first = plain_row(L, 0)
        self.assertEqual([first("0110"), first(""), plain_row(L, 1)("0110"), graph_of(first) == L,
                          plain_row(O, 2)("101")], ["1100", "", None, True, "100"])

    def test_graph(self):
        self.assertEqual(len(graph_of(PARITY)), 4)


class GraphTest(Checked):

    def test_all_pairs_of_small_widths(self):
        for row in all_passes():
            table = self.answer(graph_of, row)
            self.assertEqual((table.reads, table.writes), (row.reads, row.writes))
            for width in range(counting.small(row) + 1):
                self.assertEqual(list(table.pairs(width)), counting.union_pairs((row,), width))

    def test_wide_questions(self):
        table = graph_of(PARITY)
        for question in ("1" * 200, "01" * 100, "0" * 199 + "1"):
            self.assertIs((question, PARITY(question)) in table, True)
            self.assertIs((question, "1" + PARITY(question)[1:]) in table, PARITY(question)[0] == "1")

    def test_rows_that_answer_nothing(self):
        for reads, writes in ((1, 1), (1, 2), (2, 1), (2, 2)):
            row = Passes.by_letters(reads, writes, (0,) * 2 ** reads)
            self.assertEqual(graph_of(Passes(reads, writes, row.rights, (), row.lefts)), nothing(reads, writes))
        # The only right state of `starts` is that of no text.
        row = Passes(1, 1, ((0, 0), (1, 1)), (1,), ((((0, 0), (1, 0)), ((0, 0), (1, 0))),))
        self.assertEqual(graph_of(row), nothing(1, 1))

    def test_right_states_that_are_not_met(self):
        for row in all_passes(40, 3):
            many = len(row.rights)
            # There are three more right states, and nothing leads to them from the other ones.
            rights = row.rights + ((many + 1,) * 2 ** row.reads, (many + 2, 0) * row.reads, (many,) * 2 ** row.reads)
            lefts = tuple([tuple([entry + ((0, 0),) * 3 for entry in left]) for left in row.lefts])
            wider = Passes(row.reads, row.writes, rights, row.starts + (many, many + 2), lefts)
            self.assertEqual(graph_of(wider), graph_of(row))
            self.assertEqual(counting.set_tuples([wider]), counting.set_tuples([row]))
            self.assertEqual(len(graph_rows((wider,), 5000)), counting.set_tuples([row], 5000))

    def test_two_thousand_sets_and_one_more(self):
        few, many = rings_passes(10, (9, 13, 17, 1)), rings_passes(11, (9, 13, 17, 1))
        self.assertEqual([counting.set_tuples([row]) for row in (few, many)], [2000, 2001])
        self.assertEqual(self.answer(graph_of, few), letterwise(2, 1, tuple([(letter, 0) for letter in range(4)])))
        self.assertTooMany(2000, graph_of, many)

    def test_sixty_states_and_one_more(self):
        # What is written hangs on a ring of left states, which the least table has, and a state without use.
        for many in (59, 60):
            rows = tuple([(((int(at == 0), (at + 1) % many),),) * 2 for at in range(many)])
            row = Passes(1, 1, ((0, 0),), (0,), rows)
            if many == 59:
                self.assertEqual(len(graph_of(row)), 60)
            else:
                self.assertTooMany(60, graph_of, row)

    def test_a_graph_has_one_answer_at_most(self):
        for row in all_passes(30):
            for question in counting.questions_to(row, 3):
                answers = counting.answers(graph_of(row), question)
                self.assertEqual(answers, [] if row(question) is None else [row(question)])


class PlainRowTest(Checked):

    def test_all_questions_of_small_widths(self):
        for table in tables():
            for place in range(4):
                if counting.is_too_much(table, place):
                    self.assertTooMany(60, plain_row, table, place)
                    continue
                row = self.answer(plain_row, table, place)
                self.assertEqual((row.reads, row.writes), (table.reads, table.writes))
                for question in counting.questions_to(table, counting.small(table)):
                    answers = counting.answers(table, question)
                    self.assertEqual(row(question), answers[place] if place < len(answers) else None)

    def test_wide_questions(self):
        for table in tables(20):
            for place in range(4):
                if counting.is_too_much(table, place):
                    continue
                row = plain_row(table, place)
                for text in ("1" * 200, "01" * 90, "110" * 60, "0" * 30 + "1" * 120):
                    question = text if table.reads == 1 else text.replace("11", "23")
                    self.assertEqual(row(question), answer_at(table, question, place))

    def test_the_rows_answers_are_the_tables(self):
        for table in tables(24):
            if not counting.is_too_much(table, 0):
                graph = graph_of(plain_row(table, 0))
                self.assertIs(is_within(graph, table), True)

    def test_tables_without_pairs(self):
        for place in range(4):
            row = plain_row(nothing(2, 2), place)
            self.assertEqual((row.starts, row("0"), row(""), row("3" * 200)), ((), None, None, None))

    def test_places_0_3_and_4(self):
        self.assertEqual([plain_row(F, 3)(text) for text in ("11", "111", "1", "1111")], ["11", "011", None, "0011"])
        self.assertEqual(plain_row(F, 0)("1111"), "0000")
        for place in (4, -1, True, None, "0", 10 ** 60):
            self.assertRaisesThis(InvalidNumber, place, plain_row, F, place)

    def test_sixty_vectors_and_one_more(self):
        for told, many in ((SIXTY_VECTORS, 60), (SIXTY_ONE_VECTORS, 61)):
            table = letters_table(*told)
            self.assertEqual((len(counting.text_vectors(table, 1)), len(counting.ranks(table, 0)) < 10), (many, True))
            if many == 60:
                row = self.answer(plain_row, table, 0)
                for question in counting.questions_to(table, 7):
                    self.assertEqual(row(question), "0" * len(question) if (question, "0" * len(question)) in table
                                     else None)
            else:
                self.assertTooMany(60, plain_row, table, 0)
        # A number 1 is told apart from greater ones only up to the place 1.
        table = round_table(60, 59)
        self.assertEqual([len(counting.text_vectors(table, place + 1)) for place in (0, 1)], [60, 61])
        self.assertEqual(plain_row(table, 0)("1" * 119), "0" * 119)
        self.assertTooMany(60, plain_row, table, 1)

    def test_sixty_ranks_and_one_more(self):
        few, many = round_table(30, 29), widths_table([at == 30 for at in range(31)], back=1)
        for table, ranks in ((few, 60), (many, 61)):
            self.assertEqual((len(counting.text_vectors(table, 2)), len(counting.ranks(table, 1))), (31, ranks))
        self.assertEqual(self.answer(plain_row, few, 1)("1" * 59), "0" * 58 + "1")
        self.assertTooMany(60, plain_row, many, 1)
        self.assertEqual(plain_row(many, 0)("1" * 30), "0" * 30)
        self.assertEqual([len(counting.ranks(round_table(states, 2), place)) for states, place in ((15, 3), (20, 2))],
                         [45, 40])
        self.assertEqual(plain_row(round_table(20, 2), 2)("00"), "10")

    def test_ranks_alone_count(self):
        # The second of these has 59 useful states, but the ranks up to the place 1 are few.
        for many in (3, 56):
            table = branches_table(many)
            self.assertEqual(len(counting.ranks(table, 1)), 5)
            self.assertEqual([plain_row(table, 1)(text) for text in ("0110", "1010", "1", "111")],
                             [None, "0010", None, "001"])

    def test_just_the_told_vectors_and_ranks(self):
        for table in tables(30):
            for place in (0, 1, 3):
                for total in (False, True):
                    if not counting.is_too_much(table, place, total):
                        rights, _, lefts = plain_sides(table, place, total, 60)
                        self.assertEqual((len(rights), len(lefts)), (len(counting.text_vectors(table, place + 1)),
                                                                     len(counting.ranks(table, place, total))))

    def test_the_vectors_of_texts(self):
        for table in tables(16):
            for most in (1, 2, 4):
                texts = oracles.texts(2 ** table.reads, 2)
                found = counting.text_vectors(table, most)
                for text in ["", "1"] + texts:
                    self.assertIn(counting.text_vector(table, text, most), found if len(found) < 70 else
                                  [counting.text_vector(table, text, most)])


class MainStatementsTest(Checked):

    def test_one_pass_is_not_enough(self):
        # [0.18] The first answer letter is the last letter of the question, and the last one is the first one.
        choices = [(0, letter, last, 1 + 2 * letter + last) for letter in (0, 1) for last in (0, 1)]
        for first in (0, 1):
            for last in (0, 1):
                choices += [(1 + 2 * first + last, letter, 0, 1 + 2 * first + last) for letter in (0, 1)]
                choices.append((1 + 2 * first + last, last, first, 5))
        table = Table.of(Mayrow(1, 1, 6, tuple(choices), (0, 5)))
        row = plain_row(table, 0)
        for width in range(2, 7):
            for question in counting.questions(table, width):
                expected = question[-1] + "0" * (width - 2) + question[0]
                self.assertEqual((counting.answers(table, question), row(question)), ([expected], expected))
        self.assertEqual([row(text) for text in ("010", "011", "110")], ["000", "100", "001"])

class ErrorsTest(Checked):

    def test_wrong_arguments(self):
        self.check_wrong(graph_of, (PARITY,), (InvalidPasses, wrong_passes()))
        self.check_wrong(plain_row, (O, 0), (InvalidTable, wrong_tables()), (InvalidNumber, wrong_numbers(0, 3)))

    def test_a_wrong_place_counts_ahead_of_too_many(self):
        self.assertRaisesThis(InvalidNumber, 4, plain_row, round_table(60, 59), 4)
