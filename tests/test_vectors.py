"""Points 6.4 to 6.6: how many questions have a number of answers, and the least one of them."""

from mayrows.count import vectors
from mayrows.count.counts import count_pairs
from mayrows.count.questions import QuestionVectors, met_vectors
from mayrows.count.vectors import least_with, questions_with
from mayrows.errors import InvalidNumber, InvalidOperation, InvalidTable, TooMany
from mayrows.table.calculus import everything, letterwise, nothing
from mayrows.table.ends import unanswered
from mayrows.table.tables import Table
from tests import counting, oracles
from tests.checking import Checked, wrong_booleans, wrong_numbers, wrong_tables
from tests.samples import (COPY, FREE, HALF, LATE, ODD, ONCE, branched_table, counters_table, parts_table, random_table,
                           register_table, tokens_table, widths_table)

C, F, O, L = Table.of(COPY), Table.of(FREE), Table.of(ONCE), Table.of(LATE)


def tables(many=60):
    """Tables of all numbers of lines, also such without pairs and with all."""
    for seed in range(many):
        yield random_table(seed, 1 + seed % 2, 1 + seed // 2 % 2, 1 + seed % 4)
    for reads, writes in ((1, 1), (1, 2), (2, 1), (2, 2)):
        yield from [nothing(reads, writes), everything(reads, writes), letterwise(reads, writes, ((1, 0), (0, 1)))]
    yield from [Table.of(row) for row in (COPY, FREE, ONCE, LATE, ODD, HALF)]


class ExamplesTest(Checked):

    def test_questions_with(self):
        self.assertEqual([questions_with(O, 2, 3), questions_with(O, 2, 3, at_least=True), questions_with(F, 4, 200)],
                         [3, 7, 19900])

    def test_least_with(self):
        self.assertEqual([least_with(O, 3), least_with(F, 3), least_with(F, 3, at_least=True), least_with(C, 0)],
                         ["11", None, "11", None])

    def test_constants(self):
        self.assertEqual((vectors.MAX_NUMBER, vectors.MAX_VECTORS), (100, 2000))


class VectorsTest(Checked):

    def test_the_vectors_of_all_questions_of_small_widths(self):
        for table in tables(30):
            for most in (1, 2, 5, None):
                made = QuestionVectors(table, most)
                held = {"": made.first_vector()}
                for question in counting.questions_to(table, counting.small(table)):
                    self.assertEqual(held[question], counting.vector(table, question, most))
                    found = len(counting.answers(table, question))
                    told = made.answers_told(held[question])
                    self.assertEqual(found, told) if most is None else self.assertEqual(min(found, most), min(told, most))
                    for letter, following in enumerate(made.vectors_after(held[question])):
                        held[question + str(letter)] = following

    def test_the_order_in_which_they_are_met(self):
        for table in tables(30):
            for most in (1, 3):
                expected = counting.met_vectors(table, most)
                self.assertEqual(list(met_vectors(QuestionVectors(table, most))), expected)
                # Each one is met with the least question that has it, and these ascend.
                texts = [question for question, _ in expected]
                self.assertEqual(texts, sorted(texts, key=lambda text: (len(text), text)))
                first = {}
                for question in counting.questions_to(table, 3):
                    first.setdefault(counting.vector(table, question, most), question)
                for question, held in expected:
                    if len(question) < 4:
                        self.assertEqual(first[held], question)

    def test_they_are_met_one_by_one(self):
        found = met_vectors(QuestionVectors(F))
        self.assertEqual([next(found) for _ in range(3)], [("", (1,)), ("1", (2,)), ("11", (4,))])


class QuestionsTest(Checked):

    def test_all_questions_of_small_widths(self):
        for table in tables():
            for width in range(counting.small(table) + 1):
                numbers = [len(counting.answers(table, question)) for question in counting.questions(table, width)]
                for number in (0, 1, 2, 3, 4, 9, 100):
                    self.assertEqual(self.answer(questions_with, table, number, width), numbers.count(number))
                    self.assertEqual(self.answer(questions_with, table, number, width, at_least=True),
                                     len([many for many in numbers if many >= number]))
                    self.assertEqual(questions_with(table, number, width, at_least=False), numbers.count(number))

    def test_the_equations(self):
        for table in tables(24):
            for width in (0, 1, 3):
                numbers = [questions_with(table, number, width) for number in range(101)]
                if sum(numbers) == 2 ** (table.reads * width):
                    self.assertEqual(sum([number * many for number, many in enumerate(numbers)]),
                                     count_pairs(table, width))
                else:
                    self.assertGreater(questions_with(table, 100, width, at_least=True), numbers[100])
        for table, width in ((O, 99), (L, 200), (C, 200), (counters_table(0), 9)):
            numbers = [questions_with(table, number, width) for number in range(101)]
            self.assertEqual(sum(numbers), 2 ** (table.reads * width))
            self.assertEqual(sum([number * many for number, many in enumerate(numbers)]), count_pairs(table, width))

    def test_widths_0_and_200(self):
        self.assertEqual([questions_with(O, number, 0) for number in (0, 1, 2)], [0, 1, 0])
        self.assertEqual(questions_with(nothing(2, 1), 0, 200), 4 ** 200)
        self.assertEqual(questions_with(nothing(2, 1), 1, 200), 0)
        self.assertEqual(questions_with(everything(1, 1), 100, 200, at_least=True), 2 ** 200)
        self.assertEqual(questions_with(everything(1, 1), 100, 6, at_least=True), 0)
        self.assertEqual(questions_with(everything(1, 1), 64, 6), 64)

    def test_numbers_0_100_and_101(self):
        # A question with 99 ones has 100 answers.
        self.assertEqual([questions_with(O, number, 100) for number in (0, 1, 2, 100)], [0, 1, 100, 100])
        self.assertEqual(questions_with(O, 100, 100, at_least=True), 101)
        self.assertEqual(questions_with(O, 0, 100, at_least=True), 2 ** 100)
        for number in (101, -1, True, "1"):
            self.assertRaisesThis(InvalidNumber, number, questions_with, O, number, 3)
            self.assertRaisesThis(InvalidNumber, number, least_with, O, number)
        self.assertEqual((least_with(O, 100), least_with(O, 100, at_least=True)), ("1" * 99, "1" * 99))

    def test_two_thousand_vectors_of_one_width_and_one_more(self):
        few, many = counters_table(16), counters_table(15)
        self.assertEqual([len(counting.width_vectors(table, 62, 101)) for table in (few, many)], [2000, 2001])
        self.assertEqual(questions_with(few, 1, 62, at_least=True), 2 * 4 ** 61)
        self.assertEqual(questions_with(few, 0, 62), 2 * 4 ** 61)
        self.assertEqual([questions_with(few, number, 62) for number in (62, 63, 100)], [2 ** 61, 0, 0])
        self.assertTooMany(2000, questions_with, few, 100, 63)
        self.assertTooMany(2000, questions_with, few, 100, 200)
        self.assertEqual(questions_with(many, 0, 61), 2 * 4 ** 60)
        for width in (62, 63, 200):
            self.assertTooMany(2000, questions_with, many, 100, width, at_least=True)
        # For lesser numbers there are fewer vectors, since greater numbers are not told apart.
        self.assertEqual(questions_with(many, 0, 200), 2 * 4 ** 199)

    def test_greater_numbers_are_not_told_apart(self):
        # At great widths all vectors of numbers up to the told one and 1 are there: 44 * 44 + 44 + 1 of them.
        table = counters_table(1)
        self.assertEqual(len(counting.width_vectors(table, 100, 43)), 1981)
        self.assertGreater(questions_with(table, 42, 200), 0)
        self.assertTooMany(2000, questions_with, table, 43, 200)

    def test_many_vectors_of_several_widths(self):
        # No width has more than three vectors, but all of them together have more than 2000.
        self.assertEqual(questions_with(branched_table(12, (9, 13, 17)), 3, 200), 2 ** 200)


class LeastTest(Checked):

    def test_all_questions_of_small_widths(self):
        for table in tables():
            most = counting.small(table)
            numbers = [(question, len(counting.answers(table, question)))
                       for question in counting.questions_to(table, most)]
            for number in (0, 1, 2, 3, 4, 100):
                for at_least in (False, True):
                    expected = [question for question, many in numbers
                                if many == number or at_least and many > number]
                    found = self.answer(least_with, table, number, at_least=at_least)
                    if expected:
                        self.assertEqual(found, expected[0])
                    else:
                        self.assertTrue(found is None or len(found) > most)
                self.assertEqual(least_with(table, number), least_with(table, number, at_least=False))

    def test_none(self):
        self.assertIsNone(least_with(C, 2, at_least=True))
        self.assertIsNone(least_with(nothing(2, 2), 1))
        self.assertEqual(least_with(nothing(2, 2), 0), "")
        self.assertEqual(least_with(O, 0, at_least=True), "")

    def test_questions_without_an_answer(self):
        for table in tables():
            self.assertEqual(least_with(table, 0), unanswered(table))
        for tail, holes in ((11, None), (12, None), (12, (6, 7, 14)), (5, (0, 0, 0)), (5, (1, 1, 1)), (11, (8, 12, 16))):
            table = branched_table(tail, (9, 13, 17), holes)
            try:
                expected = unanswered(table)
            except TooMany as error:
                self.assertTooMany(error.most, least_with, table, 0)
            else:
                self.assertEqual(least_with(table, 0), expected)

    def test_two_thousand_vectors_and_one_more(self):
        few, many = branched_table(11, (9, 13, 17)), branched_table(12, (9, 13, 17))
        for number in (0, 4, 100):
            self.assertIsNone(self.answer(least_with, few, number))
            self.assertTooMany(2000, least_with, many, number)
        self.assertEqual(least_with(many, 3), "0" * 12)
        self.assertTooMany(2000, least_with, many, 4, at_least=True)

    def test_the_last_vector_that_may_be_met(self):
        # Five tokens stand for 1984; so the vector at the index 1984 and the delay is the first one with 5 answers.
        lasts = [at >= 6 for at in range(11)]
        for delay in (15, 16):
            table = register_table(delay, lasts)
            met = counting.met_vectors(table, 6)
            at = [counting.answers_told(table, held) for _, held in met].index(5)
            self.assertEqual(at, 1984 + delay)
            if at < 2000:
                self.assertEqual(self.answer(least_with, table, 5), "0" * delay + "11111000000")
                self.assertEqual(least_with(table, 5, at_least=True), met[at][0])
            else:
                self.assertTooMany(2000, least_with, table, 5)
                self.assertTooMany(2000, least_with, table, 5, at_least=True)
            self.assertEqual(least_with(table, 4), "0" * delay + "1111000000")

    def test_greater_numbers_are_not_told_apart(self):
        table = tokens_table(10, True)
        self.assertEqual(len(counting.met_vectors(table, 1)), 1024)
        self.assertIsNone(least_with(table, 0))
        self.assertIsNone(unanswered(table))
        self.assertTooMany(2000, least_with, table, 100)

    def test_finitely_many_vectors(self):
        for last, many in ((3, 2000), (4, 2001)):
            table = parts_table(((4, 5), (3, 6), (3, 5), (last, 1)), 6)
            self.assertEqual(len(counting.met_vectors(table, 101)), many)
            if many == 2000:
                self.assertIsNone(least_with(table, 100))
            else:
                self.assertTooMany(2000, least_with, table, 100)

    def test_questions_of_more_than_200_letters(self):
        for width in (199, 200, 201, 300):
            place = width - 5
            table = branched_table(5, (9, 13, 17), (place % 9, place % 13, place % 17))
            if width <= 200:
                self.assertEqual(least_with(table, 0), "0" * width)
            else:
                self.assertTooMany(200, least_with, table, 0)
        last = widths_table([at == 58 for at in range(60)])
        self.assertEqual(least_with(last, 1, at_least=True), "0" * 58)
        self.assertIsNone(least_with(last, 1))


class ErrorsTest(Checked):

    def test_wrong_arguments(self):
        numbers = (InvalidNumber, wrong_numbers(0, 100))
        wrong = [(InvalidTable, wrong_tables()), numbers, (InvalidNumber, wrong_numbers(0, 200)),
                 (InvalidOperation, wrong_booleans())]
        self.check_wrong(questions_with, (O, 2, 3), *wrong[:3])
        self.check_wrong(least_with, (O, 2), *wrong[:2])
        self.check_wrong(lambda table, number, width, at_least: questions_with(table, number, width, at_least=at_least),
                         (O, 2, 3, True), *wrong)
        self.check_wrong(lambda table, number, at_least: least_with(table, number, at_least=at_least), (O, 2, False),
                         wrong[0], wrong[1], wrong[3])

    def test_integers_are_no_booleans(self):
        for value in (0, 1, None, "True", ()):
            self.assertRaisesThis(InvalidOperation, None, least_with, O, 2, at_least=value)
            self.assertRaisesThis(InvalidOperation, None, questions_with, O, 2, 3, at_least=value)

    def test_wrong_arguments_count_ahead_of_too_many(self):
        many = branched_table(12, (9, 13, 17))
        self.assertRaisesThis(InvalidOperation, None, least_with, many, 4, at_least=1)
        self.assertRaisesThis(InvalidOperation, None, questions_with, counters_table(15), 100, 62, at_least=1)
        self.assertRaisesThis(InvalidNumber, 201, questions_with, counters_table(15), 100, 201)

    def test_by_position(self):
        with self.assertRaises(TypeError):
            least_with(O, 2, True)
        with self.assertRaises(TypeError):
            questions_with(O, 2, 3, True)

    def test_useful_states_alone_count(self):
        self.assertEqual(oracles.useful(O), (0, 2))
        self.assertEqual(QuestionVectors(O).first_vector(), (1, 0))
        self.assertEqual(QuestionVectors(nothing(1, 1)).first_vector(), ())
