"""Points 0.8, 0.9 and 1.3: texts, their order and their lines."""

from itertools import islice, product

from mayrows.base import texts
from mayrows.base.texts import comes_ahead, is_text, line_of, text_of_lines, texts_of
from mayrows.errors import InvalidNumber, InvalidOperation, InvalidText
from tests import oracles
from tests.checking import Checked, strangers, wrong_numbers, wrong_texts

WRONG_LETTERS = wrong_numbers(2, 2)
WRONG_LETTERS = [value for value in WRONG_LETTERS if type(value) is not int or value != 4]


class TextsTest(Checked):

    def test_examples(self):
        self.assertEqual([is_text("0120", 4), is_text("0120", 2), is_text("", 2), is_text(12, 4),
                          is_text("0" * 201, 2), list(texts_of(2, 2)), list(texts_of(4, 0))],
                         [True, False, True, False, False, ["00", "01", "10", "11"], [""]])
        self.assertEqual([comes_ahead("3", "00"), comes_ahead("01", "00"), comes_ahead("", ""), line_of("0123", 0),
                          line_of("0123", 1), text_of_lines("0101", "0011"), text_of_lines("10")],
                         [True, False, False, "0101", "0011", "0123", "10"])
        with self.assertRaises(InvalidOperation):
            text_of_lines("1", "10")

    def test_greatest_width(self):
        self.assertEqual(texts.MAX_WIDTH, 200)


class IsTextTest(Checked):

    def test_texts_of_each_alphabet(self):
        for letters in (2, 4):
            for width in (0, 1, 199, 200):
                for mark in "0123"[:letters]:
                    self.assertIs(self.answer(is_text, mark * width, letters), True)
                self.assertIs(is_text("0123"[letters - 1] + "4", letters), False)
        self.assertIs(is_text("0" * 99 + "2" + "0" * 99, 2), False)
        self.assertIs(is_text("0" * 200, 4), True)
        self.assertIs(is_text("0" * 201, 4), False)

    def test_other_values(self):
        for letters in (2, 4):
            for value in wrong_texts(letters) + [10 ** 5000, "0" * 100000, "x" * 100000, -10 ** 5000]:
                self.assertIs(is_text(value, letters), False)
            for value in strangers():
                self.assertIs(is_text(value, letters), oracles.is_text(value, letters))

    def test_wrong_letters(self):
        self.check_wrong(lambda letters: is_text("0", letters), (2,), (InvalidNumber, WRONG_LETTERS))
        for value in strangers():
            self.assertRaisesThis(InvalidNumber, True, is_text, value, True)


class TextsOfTest(Checked):

    def test_all_texts_ascending(self):
        for letters, most in ((2, 8), (4, 5)):
            for width in range(most):
                found = list(texts_of(letters, width))
                self.assertEqual(found, oracles.texts(letters, width))
                self.assertEqual(found, sorted(set(found)))
                self.assertEqual(len(found), letters ** width)

    def test_width_nought(self):
        self.assertEqual([list(texts_of(2, 0)), list(texts_of(4, 0))], [[""], [""]])

    def test_greatest_width_begins_at_once(self):
        self.assertEqual(list(islice(texts_of(2, 200), 3)), ["0" * 200, "0" * 199 + "1", "0" * 198 + "10"])
        self.assertEqual(list(islice(texts_of(4, 200), 5))[3:], ["0" * 199 + "3", "0" * 198 + "10"])

    def test_errors_are_raised_at_the_first_request(self):
        generator = texts_of(3, 500)
        with self.assertRaises(InvalidNumber) as caught:
            next(generator)
        self.assertEqual(caught.exception.given, 3)

    def test_wrong_arguments(self):
        self.check_wrong(lambda letters, width: next(texts_of(letters, width)), (4, 3),
                         (InvalidNumber, WRONG_LETTERS), (InvalidNumber, wrong_numbers(0, 200)))
        self.assertRaisesThis(InvalidNumber, 201, lambda width: list(texts_of(2, width)), 201)


class ComesAheadTest(Checked):

    def test_order_of_all_small_texts(self):
        ordered = [text for width in range(4) for text in oracles.texts(4, width)]
        for place, one in enumerate(ordered):
            for other_place, other in enumerate(ordered):
                self.assertIs(comes_ahead(one, other), place < other_place)

    def test_widest_texts(self):
        self.assertIs(comes_ahead("3" * 199, "0" * 200), True)
        self.assertIs(comes_ahead("0" * 200, "3" * 199), False)
        self.assertIs(comes_ahead("3" * 200, "3" * 200), False)

    def test_wrong_arguments(self):
        self.check_wrong(comes_ahead, ("0", "3"), (InvalidText, wrong_texts(4)), (InvalidText, wrong_texts(4)))


class LinesTest(Checked):

    def test_lines_and_back(self):
        for width in range(4):
            for text in oracles.texts(4, width):
                low, high = self.answer(line_of, text, 0), self.answer(line_of, text, 1)
                self.assertEqual(low, "".join([str(int(mark) % 2) for mark in text]))
                self.assertEqual(high, "".join([str(int(mark) // 2) for mark in text]))
                self.assertEqual(self.answer(text_of_lines, low, high), text)

    def test_one_line(self):
        for text in ("", "0", "1", "0110", "1" * 200):
            self.assertEqual(self.answer(text_of_lines, text), text)

    def test_a_text_of_low_letters_has_two_lines(self):
        self.assertEqual([line_of("0110", 0), line_of("0110", 1), line_of("", 0), line_of("", 1)],
                         ["0110", "0000", "", ""])

    def test_widest_texts(self):
        self.assertEqual(text_of_lines("1" * 200, "0" * 200), "1" * 200)
        self.assertEqual(text_of_lines("0" * 200, "1" * 200), "2" * 200)
        self.assertEqual(line_of("2" * 200, 1), "1" * 200)

    def test_wrong_arguments_of_line_of(self):
        self.check_wrong(line_of, ("0123", 1), (InvalidText, wrong_texts(4)), (InvalidNumber, wrong_numbers(0, 1)))

    def test_wrong_arguments_of_text_of_lines(self):
        self.check_wrong(text_of_lines, ("01",), (InvalidText, wrong_texts(2)))
        self.check_wrong(text_of_lines, ("01", "11"), (InvalidText, wrong_texts(2)), (InvalidText, wrong_texts(2)))
        self.assertRaisesThis(InvalidText, None, text_of_lines, "012")

    def test_lines_that_do_not_fit(self):
        self.assertRaisesThis(InvalidOperation, None, text_of_lines)
        self.assertRaisesThis(InvalidOperation, None, text_of_lines, "", "", "")
        self.assertRaisesThis(InvalidOperation, None, text_of_lines, "0", "1", "0", "1")
        for low, high in product(("", "0", "11"), repeat=2):
            if len(low) != len(high):
                self.assertRaisesThis(InvalidOperation, None, text_of_lines, low, high)

    def test_a_wrong_text_counts_ahead_of_lines_that_do_not_fit(self):
        for value in wrong_texts(2):
            self.assertRaisesThis(InvalidText, value, text_of_lines, "0", "11", value)
            self.assertRaisesThis(InvalidText, value, text_of_lines, "0", value, "11")
            self.assertRaisesThis(InvalidText, value, text_of_lines, value, "11", "000")
