"""Point 7.1: the answers of a question by their places."""

from itertools import islice

from mayrows.count.counts import count_answers
from mayrows.errors import InvalidNumber, InvalidTable, InvalidText
from mayrows.least.answers import answer_at, answers_from, place_of
from mayrows.table.calculus import everything, letterwise, nothing
from mayrows.table.tables import Table
from tests import counting, oracles
from tests.checking import Checked, wrong_numbers, wrong_tables, wrong_texts
from tests.samples import COPY, FREE, HALF, LATE, ODD, ONCE, random_table

C, F, O, L = Table.of(COPY), Table.of(FREE), Table.of(ONCE), Table.of(LATE)


def tables(many=40):
    """Tables of all numbers of lines, also such without pairs and with all."""
    for seed in range(many):
        yield random_table(seed, 1 + seed % 2, 1 + seed // 2 % 2, 1 + seed % 4)
    for reads, writes in ((1, 1), (1, 2), (2, 1), (2, 2)):
        yield from [nothing(reads, writes), everything(reads, writes), letterwise(reads, writes, ((1, 0), (0, 1)))]
    yield from [Table.of(row) for row in (COPY, FREE, ONCE, LATE, ODD, HALF)]


class ExamplesTest(Checked):

    def test_places(self):
        self.assertEqual([answer_at(O, "101", 1), answer_at(O, "101", 3), place_of(O, "101", "100"),
                          place_of(O, "101", "101"), list(answers_from(F, "11", 2))],
                         ["001", None, 2, None, ["10", "11"]])


class PlacesTest(Checked):

    def test_all_questions_and_answers_of_small_widths(self):
        for table in tables():
            for question in counting.questions_to(table, counting.small(table)):
                answers = counting.answers(table, question)
                self.assertEqual(list(answers_from(table, question)), answers)
                for place in range(min(len(answers), 20) + 2):
                    expected = answers[place] if place < len(answers) else None
                    self.assertEqual(self.answer(answer_at, table, question, place), expected)
                    self.assertEqual(list(answers_from(table, question, place)), answers[place:])
                places = {answer: place for place, answer in enumerate(answers)}
                for answer in oracles.texts(2 ** table.writes, len(question)):
                    self.assertEqual(self.answer(place_of, table, question, answer), places.get(answer))

    def test_texts_of_unlike_widths(self):
        for answer in ("", "0", "0000", "1" * 200):
            self.assertIsNone(place_of(everything(1, 1), "000", answer))
        self.assertIsNone(place_of(C, "", "0"))
        self.assertEqual(place_of(C, "", ""), 0)
        self.assertIsNone(place_of(Table.of(ODD), "", ""))

    def test_places_beyond_the_last_answer(self):
        for place in (4, 5, 10 ** 59, 10 ** 60 - 1):
            self.assertIsNone(answer_at(F, "11", place))
            self.assertEqual(list(answers_from(F, "11", place)), [])
        self.assertEqual(answer_at(F, "11", 3), "11")
        self.assertIsNone(answer_at(nothing(1, 1), "", 0))
        self.assertIsNone(answer_at(nothing(2, 2), "0123", 0))

    def test_wide_questions(self):
        whole = everything(2, 2)
        self.assertEqual(answer_at(whole, "0" * 200, 4 ** 60), "0" * 139 + "1" + "0" * 60)
        self.assertEqual(place_of(whole, "0" * 200, "3" * 200), 4 ** 200 - 1)
        self.assertGreater(place_of(whole, "0" * 200, "3" * 200), 10 ** 60)
        self.assertEqual(answer_at(O, "1" * 200, 200), "1" + "0" * 199)
        self.assertIsNone(answer_at(O, "1" * 200, 201))
        self.assertEqual(place_of(O, "1" * 200, "1" + "0" * 199), count_answers(O, "1" * 200) - 1)

    def test_answers_and_places_are_opposite(self):
        for question in ("1" * 190, "01" * 95, "110" * 60):
            for place in (0, 1, 2, 7, 50, 10 ** 9, 2 ** 89):
                answer = answer_at(F, question, place)
                self.assertEqual(place_of(F, question, answer), place)


class GeneratorTest(Checked):

    def test_yields_one_after_the_other(self):
        # There are 4 ** 200 answers.
        found = answers_from(everything(2, 2), "0" * 200, 10 ** 59)
        self.assertEqual([place_of(everything(2, 2), "0" * 200, next(found)) for _ in range(5)],
                         [10 ** 59 + at for at in range(5)])
        self.assertEqual(list(islice(answers_from(F, "1" * 200), 2)), ["0" * 200, "0" * 199 + "1"])

    def test_ends(self):
        found = answers_from(F, "1", 1)
        self.assertEqual([next(found), next(found, None), next(found, None)], ["1", None, None])

    def test_raises_when_it_is_asked(self):
        for error, table, question, place in ((InvalidTable, None, 7, -1), (InvalidText, O, "2", -1),
                                              (InvalidNumber, O, "1", -1), (InvalidNumber, O, "1", True)):
            found = answers_from(table, question, place)
            self.assertRaisesThis(error, place, lambda: next(found))


class ErrorsTest(Checked):

    def test_wrong_arguments(self):
        for table in (O, everything(2, 1), everything(1, 2)):
            wrong = [(InvalidTable, wrong_tables()), (InvalidText, wrong_texts(2 ** table.reads))]
            places = (InvalidNumber, wrong_numbers(0, 10 ** 60 - 1))
            self.check_wrong(answer_at, (table, "01", 0), *wrong, places)
            self.check_wrong(lambda *values: list(answers_from(*values)), (table, "01", 0), *wrong, places)
            self.check_wrong(place_of, (table, "01", "01"), *wrong, (InvalidText, wrong_texts(2 ** table.writes)))

    def test_places_of_more_than_sixty_digits(self):
        for place in (10 ** 60, 10 ** 99, -1, -10 ** 60, True, False, None, "0"):
            self.assertRaisesThis(InvalidNumber, place, answer_at, O, "1", place)
        self.assertIsNone(answer_at(O, "1", 10 ** 60 - 1))

    def test_answer_texts_of_any_width(self):
        self.assertRaisesThis(InvalidText, None, place_of, O, "1", "2")
        self.assertRaisesThis(InvalidText, None, place_of, O, "1", "0" * 201)
        self.assertEqual(place_of(everything(1, 2), "1", "3"), 3)
