"""Points 8.1 to 8.5 and 0.14: unions of plain rows."""

from itertools import permutations

from mayrows.count.vectors import least_with
from mayrows.errors import InvalidNumber, InvalidOperation, InvalidPasses, InvalidTable, TooMany
from mayrows.least import unions
from mayrows.least.answers import answers_from
from mayrows.least.passes import Passes, graph_of, plain_row
from mayrows.least.unions import gap_of, is_union, is_union_paper, plain_rows, union_of, union_paper
from mayrows.table.calculus import everything, letterwise, nothing
from mayrows.table.ends import unanswered
from mayrows.table.tables import Table
from mayrows.table.within import is_within
from tests import counting, oracles
from tests.checking import (Checked, spoilt, strangers, wrong_booleans, wrong_numbers, wrong_passes, wrong_tables)
from tests.samples import (COPY, FREE, HALF, LATE, ODD, ONCE, PARITY, SIXTY_ONE_VECTORS, SIXTY_VECTORS, branched_table,
                           branches_table, letters_table, random_passes, random_table, register_table, ring_passes,
                           round_table, tokens_table, widths_table)

C, F, O, L = Table.of(COPY), Table.of(FREE), Table.of(ONCE), Table.of(LATE)
SAME, ZEROS, ONES = [Passes.by_letters(1, 1, letters) for letters in ((0, 1), (0, 0), (1, 1))]
TWO = union_of(SAME, ZEROS)


def groups(many=40):
    """Tuples of one to four plain rows with equally many lines, whose unions have few states."""
    for seed in range(many):
        rows = tuple([random_passes(10 * seed + at, 1 + seed % 2, 1 + seed // 2 % 2, 1 + (seed + at) % 2)
                      for at in range(1 + seed // 4 % 4)])
        try:
            union_of(*rows)
        except TooMany:
            continue
        yield rows


def tables(many=30):
    """Tables of all numbers of lines, also such without pairs, with all, and of few plain rows."""
    for seed in range(many):
        yield random_table(seed, 1 + seed % 2, 1 + seed // 2 % 2, 1 + seed % 3)
    for reads, writes in ((1, 1), (1, 2), (2, 1), (2, 2)):
        yield from [nothing(reads, writes), everything(reads, writes), letterwise(reads, writes, ((1, 0), (0, 1)))]
    yield from [Table.of(row) for row in (COPY, FREE, ONCE, LATE, ODD, HALF)]
    yield from [TWO, C | L, union_of(SAME, ZEROS, ONES)]
    yield from [union for union in [union_of(*rows) for rows in groups(16)] if len(union) < 12]


class ExamplesTest(Checked):

    def test_union(self):
        self.assertEqual([union_of(SAME) == C, len(TWO), list(answers_from(TWO, "01")), is_union(TWO, (ZEROS, SAME)),
                          is_union(TWO, (SAME,))], [True, 4, ["00", "01"], True, False])

    def test_rows(self):
        rows, whole = plain_rows(TWO, 2), plain_rows(TWO, 2, total=True)
        self.assertEqual([[row("01") for row in rows], [row("00") for row in rows], [row("00") for row in whole],
                          gap_of(rows[1]), gap_of(whole[1])], [["00", "01"], ["00", None], ["00", "00"], "", None])

    def test_papers(self):
        self.assertEqual([is_union_paper(TWO, 1, ("many", "1")), is_union_paper(TWO, 2, ("many", "1")),
                          union_paper(F, 4)[0], plain_rows(TWO, 0)], [True, False, "many", ()])

    def test_constants(self):
        self.assertEqual((unions.MOST_ROWS, unions.MOST_MET), (4, 2000))


class UnionTest(Checked):

    def test_all_pairs_of_small_widths(self):
        for rows in groups():
            table = self.answer(union_of, *rows)
            self.assertEqual((table.reads, table.writes), (rows[0].reads, rows[0].writes))
            for width in range(counting.small(table) + 1):
                self.assertEqual(list(table.pairs(width)), counting.union_pairs(rows, width))

    def test_it_is_the_joint_of_the_graphs(self):
        for rows in groups():
            table = graph_of(rows[0])
            for row in rows[1:]:
                table = table | graph_of(row)
            self.assertEqual(union_of(*rows), table)
            for order in permutations(rows):
                self.assertEqual(union_of(*order), table)
            self.assertEqual(union_of(*rows, *rows), table)

    def test_any_number_of_rows(self):
        self.assertEqual(union_of(*[SAME] * 50), C)
        self.assertEqual(union_of(SAME, ZEROS, ONES, SAME, ZEROS), union_of(ONES, ZEROS, SAME))

    def test_two_thousand_tuples_and_one_more(self):
        few, many = [(ring_passes(tail, 9), ring_passes(0, 13), ring_passes(0, 17)) for tail in (10, 11)]
        self.assertEqual([counting.set_tuples(rows) for rows in (few, many)], [2000, 2001])
        zeros = letterwise(1, 1, ((0, 0), (1, 0)))
        self.assertEqual(self.answer(union_of, *few), zeros)
        self.assertTooMany(2000, union_of, *many)
        self.assertIs(is_union(zeros, few), True)
        self.assertIs(is_union(C, few), False)
        self.assertTooMany(2000, is_union, zeros, many)
        self.assertTooMany(2000, is_union, C, many)
        self.assertTooMany(2000, is_union_paper, zeros, 3, ("rows", many))
        self.assertTooMany(2000, is_union_paper, zeros, 4, ("rows", many))
        # Three rows are not the form of a paper for two ones, and rows with other lines are none of the table.
        self.assertIs(is_union_paper(zeros, 2, ("rows", many)), False)
        self.assertIs(is_union(everything(2, 1), many), False)
        self.assertIs(is_union_paper(everything(2, 1), 3, ("rows", many)), False)
        self.assertIs(is_union(zeros, many * 2), False)

    def test_sixty_states(self):
        few, many = [Passes(1, 1, ((0, 0),), (0,), tuple([(((int(at == 0), (at + 1) % states),),) * 2
                                                          for at in range(states)])) for states in (59, 60)]
        self.assertEqual([len(union_of(few)), len(union_of(few, few))], [60, 60])
        self.assertIs(is_union(graph_of(few), (few, few)), True)
        for rows in ((many,), (many, ZEROS), (many, many)):
            self.assertTooMany(60, union_of, *rows)
            self.assertTooMany(60, is_union, C, rows)
            self.assertTooMany(60, is_union_paper, C, 2, ("rows", rows))


class GapTest(Checked):

    def test_the_least_question_that_is_not_answered(self):
        for rows in groups(60):
            row = rows[-1]
            gaps = [question for question in counting.questions_to(row, 4) if counting.plain_answer(row, question) is None]
            found = self.answer(gap_of, row)
            # There are at most three right states, so a gap is narrow.
            self.assertEqual(found, gaps[0] if gaps else None)
            self.assertIs(found is None, all(right in row.starts for right in counting.met_rights(row)))

    def test_it_is_the_least_one_without_an_answer(self):
        for rows in groups(30):
            for row in rows:
                self.assertEqual(gap_of(row), unanswered(graph_of(row)))

    def test_the_least_text_does_not_come_of_the_first_way(self):
        # The texts 10 and 01 both have right states that are none of `starts`; texts grow at their begins.
        rights = ((1, 2), (3, 4), (5, 6)) + tuple([(at, at) for at in range(3, 7)])
        for starts, gap in (((0, 1, 2, 3, 6), "01"), ((0, 1, 2, 3, 5, 6), "10"), ((0, 1, 2, 3, 4, 6), "01"),
                            ((0, 1, 2, 3, 4, 5), "11"), ((0, 1, 2, 3, 4, 5, 6), None), ((1, 2), "")):
            row = Passes(1, 1, rights, starts, ((((0, 0),) * 7,) * 2,))
            self.assertEqual(gap_of(row), gap)

    def test_a_state_that_is_met_again(self):
        # All texts of the width 3 with the right state 3 come from texts whose right states were met before.
        rights = ((0, 1), (0, 2), (3, 2), (0, 0))
        for starts in ((0, 1, 2), (0, 1), (0, 2, 3), (0, 1, 2, 3), (1, 2, 3)):
            row = Passes(1, 1, rights, starts, ((((0, 0),) * 4,) * 2,))
            gaps = [question for question in counting.questions_to(row, 5) if question not in row]
            self.assertEqual(gap_of(row), gaps[0] if gaps else None)

    def test_right_states_that_are_not_met(self):
        row = Passes(1, 1, ((0, 0), (1, 1)), (0,), ((((0, 0),) * 2,) * 2,))
        self.assertIsNone(gap_of(row))
        self.assertEqual(gap_of(Passes(1, 1, ((0, 0), (1, 1)), (1,), row.lefts)), "")
        self.assertEqual(gap_of(Passes(1, 1, ((0, 0), (1, 1)), (), row.lefts)), "")

    def test_sixty_right_states(self):
        rights = tuple([(0, min(at + 1, 59)) for at in range(60)])
        row = Passes(1, 1, rights, tuple(range(59)), ((((0, 0),) * 60,) * 2,))
        self.assertEqual(gap_of(row), "1" * 59)


class PlainRowsTest(Checked):

    def test_all_questions_of_small_widths(self):
        for table in tables():
            is_answered = unanswered(table) is None
            for number in range(5):
                for total in (False, True):
                    if any(counting.is_too_much(table, place, total) for place in range(number)):
                        self.assertTooMany(60, plain_rows, table, number, total=total)
                    elif total and number and not is_answered:
                        self.assertRaisesThis(InvalidOperation, None, plain_rows, table, number, total=True)
                    else:
                        self.check_rows(table, number, total)

    def check_rows(self, table, number, total):
        rows = self.answer(plain_rows, table, number, total=total)
        self.assertEqual(len(rows), number)
        for question in counting.questions_to(table, counting.small(table)):
            answers = counting.answers(table, question)
            for place, row in enumerate(rows):
                further = answers[-1] if total else None
                self.assertEqual(row(question), answers[place] if place < len(answers) else further)
        if total:
            self.assertEqual([gap_of(row) for row in rows], [None] * number)

    def test_they_are_the_rows_of_the_places(self):
        for table in (TWO, F, O, C | L):
            for place, row in enumerate(plain_rows(table, 4)):
                for question in ("", "1" * 150, "0110" * 40):
                    self.assertEqual(row(question), plain_row(table, place)(question))

    def test_none(self):
        for table in (nothing(1, 1), everything(2, 2), round_table(60, 59), Table.of(HALF)):
            self.assertEqual(plain_rows(table, 0), ())
            self.assertEqual(plain_rows(table, 0, total=True), ())

    def test_total_rows_where_some_question_has_no_answer(self):
        for table in (Table.of(HALF), Table.of(ODD), nothing(1, 1), widths_table([at < 20 for at in range(21)])):
            self.assertEqual([row("0") for row in plain_rows(table, 2)][:1],
                             [next(answers_from(table, "0"), None)])
            for number in (1, 4):
                self.assertRaisesThis(InvalidOperation, None, plain_rows, table, number, total=True)

    def test_more_rows_than_answers(self):
        rows = plain_rows(C, 4)
        self.assertEqual([row("0110") for row in rows], ["0110", None, None, None])
        self.assertEqual([gap_of(row) for row in rows], [None, "", "", ""])
        self.assertEqual([row("0110") for row in plain_rows(C, 4, total=True)], ["0110"] * 4)
        self.assertEqual([row("") for row in plain_rows(C, 4, total=True)], [""] * 4)

    def test_sixty_vectors_and_one_more(self):
        few, many = letters_table(*SIXTY_VECTORS), letters_table(*SIXTY_ONE_VECTORS)
        self.assertEqual(len(plain_rows(few, 1)), 1)
        self.assertTooMany(60, plain_rows, many, 1)
        # Only places below the number count, and the error counts ahead of questions without an answer.
        self.assertEqual(len(plain_rows(round_table(60, 59), 1)), 1)
        self.assertTooMany(60, plain_rows, round_table(60, 59), 2)
        self.assertTooMany(60, plain_rows, round_table(60, 59), 2, total=True)
        self.assertTooMany(60, plain_rows, many, 1, total=True)
        self.assertRaisesThis(InvalidOperation, None, plain_rows, few, 1, total=True)

    def test_sixty_ranks_and_one_more(self):
        self.assertEqual(len(plain_rows(round_table(30, 29), 2)), 2)
        self.assertTooMany(60, plain_rows, widths_table([at == 30 for at in range(31)], back=1), 2)
        self.assertEqual(len(plain_rows(widths_table([at == 30 for at in range(31)], back=1), 1)), 1)

    def test_sixty_further_ranks_and_one_more(self):
        for many, ranks in ((55, 60), (56, 61)):
            table = branches_table(many)
            self.assertEqual([len(counting.ranks(table, 1, total)) for total in (False, True)], [5, ranks])
            self.assertEqual([row("10") for row in plain_rows(table, 2)], ["00", None])
            if ranks == 60:
                rows = self.answer(plain_rows, table, 2, total=True)
                self.assertEqual([[row(text) for row in rows] for text in ("10", "111", "00", "0")],
                                 [["00", "00"], ["000", "001"], ["01", "01"], ["0", "0"]])
            else:
                self.assertTooMany(60, plain_rows, table, 2, total=True)
            self.assertEqual(len(plain_rows(table, 1, total=True)), 1)


class IsUnionTest(Checked):

    def test_told_rows(self):
        for table in tables():
            for number in range(4):
                if any(counting.is_too_much(table, place) for place in range(number)):
                    continue
                rows = plain_rows(table, number)
                if counting.set_tuples(rows) > 2000 if rows else False:
                    continue
                right = least_with(table, number + 1, at_least=True) is None
                if right:
                    self.assertIs(self.answer(is_union, table, rows), True)
                elif number == 0:
                    self.assertIs(is_union(table, rows), False)
                else:
                    # Each of the rows has answers of the table only.
                    self.assertIs(is_within(union_of(*rows), table), True)
                    self.assertIs(is_union(table, rows), False)

    def test_any_rows(self):
        for rows in groups(24):
            table = union_of(*rows)
            for value in (rows, rows[::-1], rows[:1], rows[1:], rows[1:] + rows[:1], (rows + rows)[:4]):
                right = len(value) > 0 and union_of(*value) == table or not value and not table
                self.assertIs(self.answer(is_union, table, value), right)

    def test_none_to_four_rows(self):
        self.assertIs(is_union(nothing(1, 1), ()), True)
        self.assertIs(is_union(C, ()), False)
        for many in range(1, 7):
            self.assertIs(is_union(C, (SAME,) * many), many < 5)
        empty = Passes(1, 1, SAME.rights, (), SAME.lefts)
        self.assertIs(is_union(nothing(1, 1), (empty,) * 3), True)

    def test_rows_of_unlike_lines(self):
        other = Passes.by_letters(2, 1, (0, 1, 1, 0))
        self.assertIs(is_union(C, (other,)), False)
        self.assertIs(is_union(C, (SAME, other)), False)
        self.assertIs(is_union(graph_of(other), (other, other)), True)

    def test_any_value_can_be_judged(self):
        for part in strangers() + [10 ** 5000, "1" * 5000]:
            for value in (part, (part,), (SAME, part), (part, SAME), [SAME], (SAME,) * 4 + (part,), ((SAME,),)):
                for table in (C, nothing(1, 1), nothing(2, 2)):
                    right = (counting.is_union_value(value, table.reads, table.writes, 4)
                             and (union_of(*value) == table if value else not table))
                    self.assertIs(is_union(table, value), right, value)


class UnionPaperTest(Checked):

    def test_told_papers_are_right(self):
        kinds = {"rows": 0, "many": 0}
        for table in tables():
            for number in range(5):
                least = least_with(table, number + 1, at_least=True)
                if least is None and any(counting.is_too_much(table, place) for place in range(number)):
                    self.assertTooMany(60, union_paper, table, number)
                    continue
                paper = self.answer(union_paper, table, number)
                kinds[paper[0]] += 1
                self.assertEqual(paper[0], "rows" if least is None else "many")
                if least is None:
                    self.assertLessEqual(len(paper[1]), number)
                else:
                    self.assertGreater(len(counting.answers(table, paper[1])), number)
                self.assertIs(self.answer(is_union_paper, table, number, paper), True)
        self.assertGreater(min(kinds.values()), 30)

    def test_any_question_with_more_answers(self):
        for table in tables(16):
            for number in range(5):
                for question in counting.questions_to(table, 2):
                    self.assertIs(is_union_paper(table, number, ("many", question)),
                                  len(counting.answers(table, question)) > number)
        self.assertIs(is_union_paper(F, 4, ("many", "1" * 200)), True)
        self.assertIs(is_union_paper(F, 4, ("many", "1" * 201)), False)

    def test_any_rows_whose_union_is_the_table(self):
        for rows in groups(24):
            table = union_of(*rows)
            for number in range(5):
                self.assertIs(is_union_paper(table, number, ("rows", rows)), len(rows) <= number)
                self.assertIs(is_union_paper(table, number, ("rows", rows[1:])),
                              len(rows) <= number + 1 and is_union(table, rows[1:]))
        self.assertIs(is_union_paper(nothing(2, 2), 0, ("rows", ())), True)
        self.assertIs(is_union_paper(C, 0, ("rows", ())), False)
        self.assertEqual(union_paper(nothing(2, 2), 0), ("rows", ()))

    def test_spoilt_papers(self):
        wrong = 0
        for table, number in ((TWO, 1), (TWO, 2), (C, 1), (C, 0), (F, 3), (nothing(1, 1), 2)):
            for value in spoilt(union_paper(table, number)):
                right = False
                if type(value) is tuple and len(value) == 2 and value[0] == "many":
                    right = oracles.is_text(value[1], 2) and len(counting.answers(table, value[1])) > number
                elif type(value) is tuple and len(value) == 2 and value[0] == "rows":
                    right = (counting.is_union_value(value[1], 1, 1, number)
                             and (union_of(*value[1]) == table if value[1] else not table))
                wrong += not right
                self.assertIs(is_union_paper(table, number, value), right, value)
        self.assertGreater(wrong, 100)

    def test_any_value_can_be_judged(self):
        for part in strangers() + [10 ** 5000, "1" * 5000]:
            for value in (part, (part,), ("rows", part), ("rows", (part,)), ("rows", (SAME, part)), (part, (SAME,)),
                          ("many", part), (part, "11"), ("many", "11", part), ("rows", (SAME,), part)):
                self.assertIs(is_union_paper(C, 2, value),
                              value in (("rows", (SAME,)),) and type(value[1]) is tuple, value)

    def test_two_thousand_count_rows_and_one_more(self):
        # No question has more than three answers.
        few, many = branched_table(11, (9, 13, 17)), branched_table(12, (9, 13, 17))
        self.assertEqual([len(counting.met_vectors(table, 5)) for table in (few, many)], [2000, 2001])
        kind, rows = self.answer(union_paper, few, 4)
        self.assertEqual((kind, [row("0" * 30) for row in rows][3]), ("rows", None))
        self.assertTooMany(2000, union_paper, many, 4)
        self.assertTooMany(2000, union_paper, many, 3)
        self.assertEqual(union_paper(many, 2), ("many", "0" * 12))

    def test_two_thousand_count_rows_ahead_of_the_question(self):
        # The vector of the least question with five answers has the index 1984 and the delay.
        for delay in (15, 16, 17):
            table = register_table(delay, [at >= 6 for at in range(11)])
            if delay < 17:
                self.assertEqual(self.answer(union_paper, table, 4), ("many", "0" * delay + "11111000000"))
            else:
                self.assertTooMany(2000, union_paper, table, 4)
            self.assertIs(is_union_paper(table, 4, ("many", "0" * delay + "11111000000")), True)

    def test_greater_numbers_are_not_told_apart(self):
        # Ahead of the question 200000 there are 2 * 3 ** 5 vectors up to the number 1, and 2 * 4 ** 5 other ones.
        table = tokens_table(6, False)
        self.assertEqual([[question for question, _ in counting.met_vectors(table, most)].index("200000")
                          for most in (2, 3)], [486, 2048])
        self.assertEqual(self.answer(union_paper, table, 1), ("many", "200000"))
        self.assertTooMany(2000, union_paper, table, 2)

    def test_questions_of_more_than_200_letters(self):
        for width in (199, 200, 201, 300):
            # All three rounds have a last state together there first.
            rounds = _rounds_table(5, (9, 13, 17), width - 5)
            if width <= 200:
                self.assertEqual(union_paper(rounds, 2), ("many", "0" * width))
            else:
                self.assertTooMany(200, union_paper, rounds, 2)

    def test_the_number_counts(self):
        self.assertEqual([union_paper(O, number)[0] for number in range(5)], ["many"] * 5)
        self.assertEqual([union_paper(O, number)[1] for number in (0, 1, 2)], ["", "1", "11"])
        self.assertEqual([union_paper(TWO, number)[0] for number in range(5)], ["many", "many", "rows", "rows", "rows"])


def _rounds_table(tail, rounds, place):
    """A table whose questions have an answer more for each round that is at its place then."""
    lasts = [False] * tail
    for many in rounds:
        lasts += [at == place % many for at in range(many)]
    bases = [tail + sum(rounds[:at]) for at in range(len(rounds))]
    rows = [[len(lasts)] * 8 for _ in range(len(lasts) + 1)]
    for letter in (0, 4):
        for at in range(tail - 1):
            rows[at][letter] = at + 1
        for answer, base in enumerate(bases):
            rows[tail - 1][letter + answer] = base
        for base, many in zip(bases, rounds):
            for at in range(many):
                rows[base + at][letter] = base + (at + 1) % many
    return Table.told(1, 2, tuple([(last, tuple(row)) for last, row in zip(lasts + [False], rows)]))


class ErrorsTest(Checked):

    def test_wrong_arguments(self):
        tables_, numbers = (InvalidTable, wrong_tables()), (InvalidNumber, wrong_numbers(0, 4))
        self.check_wrong(gap_of, (SAME,), (InvalidPasses, wrong_passes()))
        self.check_wrong(plain_rows, (C, 2), tables_, numbers)
        self.check_wrong(lambda table, number, total: plain_rows(table, number, total=total), (C, 2, False),
                         tables_, numbers, (InvalidOperation, wrong_booleans()))
        self.check_wrong(union_paper, (C, 2), tables_, numbers)
        self.check_wrong(lambda table: is_union(table, None), (C,), tables_)
        self.check_wrong(lambda table, number: is_union_paper(table, number, None), (C, 2), tables_, numbers)

    def test_wrong_rows(self):
        passes = (InvalidPasses, wrong_passes())
        self.check_wrong(union_of, (SAME,), passes)
        self.check_wrong(union_of, (SAME, ZEROS, ONES), passes, passes, passes)
        # A wrong value counts ahead of rows of unlike lines.
        for value in strangers()[::5]:
            if not isinstance(value, Passes):
                self.assertRaisesThis(InvalidPasses, None, union_of, SAME, Passes.by_letters(2, 1, (0,) * 4), value)

    def test_no_rows_and_rows_of_unlike_lines(self):
        self.assertRaisesThis(InvalidOperation, None, union_of)
        made = [Passes.by_letters(reads, writes, (0,) * 2 ** reads) for reads in (1, 2) for writes in (1, 2)]
        for one in made:
            for other in made:
                if one is other:
                    union_of(one, other)
                else:
                    self.assertRaisesThis(InvalidOperation, None, union_of, one, other)
                    self.assertRaisesThis(InvalidOperation, None, union_of, one, one, other)

    def test_numbers_4_and_5(self):
        self.assertEqual(len(plain_rows(F, 4)), 4)
        for number in (5, -1, True, None, "2"):
            for function in (plain_rows, union_paper, lambda table, given: is_union_paper(table, given, None)):
                self.assertRaisesThis(InvalidNumber, number, function, F, number)

    def test_total_is_passed_by_keyword(self):
        with self.assertRaises(TypeError):
            plain_rows(C, 2, True)
        for value in (0, 1, None, "True"):
            self.assertRaisesThis(InvalidOperation, None, plain_rows, C, 2, total=value)

    def test_wrong_arguments_count_ahead_of_too_many(self):
        table = round_table(60, 59)
        self.assertRaisesThis(InvalidOperation, None, plain_rows, table, 2, total=1)
        self.assertRaisesThis(InvalidNumber, 5, plain_rows, table, 5, total=1)
