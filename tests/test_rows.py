"""Points 0.8 and 0.10, and the class `Mayrow`."""

from collections import Counter
from itertools import permutations

from mayrows.errors import InvalidRow, InvalidText
from mayrows.row import rows
from mayrows.row.rows import Mayrow
from mayrows.table.tables import Table
from tests import oracles
from tests.checking import Checked, strangers, wrong_numbers, wrong_texts
from tests.samples import COPY, FREE, LATE, ONCE, random_row

# A letter `0` doubles the number of the answers, and a letter `1` adds one to it: the first `1` of an answer
# tells which letter `1` of the question began to count.
HORNER = Mayrow(1, 1, 2, ((0, 0, 0, 0), (0, 1, 0, 0), (0, 1, 1, 1), (1, 0, 0, 1), (1, 0, 1, 1), (1, 1, 0, 1)), (1,))

# Values that are no choices, and no last states, of a row with two states that reads and writes one line.
WRONG_CHOICES = [
    ((0, 0, 0, 0), (0, 0, 0, 0)), ((2, 0, 0, 0),), ((0, 2, 0, 0),), ((0, 0, 2, 0),), ((0, 0, 0, 2),), ((-1, 0, 0, 0),),
    ((0, 0, 0, -1),), ((0, 0, 0),), ((0, 0, 0, 0, 0),), ([0, 0, 0, 0],), [(0, 0, 0, 0)], ((True, 0, 0, 0),),
    ((0, False, 0, 0),), ((0, 0, True, 0),), ((0, 0, 0, False),), ((0, 0, 0, None),), ((0, 0, 0, "0"),), ("0000",),
    ((0, 0, 0, (0,)),), ((0, 0, 0, []),), ((0, 0, 0, {}),), ((0, 0, 0, 10 ** 60),), (COPY,), ((0, 0, 0, COPY),),
    ((0, 0, 0, 0), (1, 1, 1, 1), (0, 0, 0, 0)), ((0, 0, 0, 0),) * 577, {(0, 0, 0, 0): 0}, ((0, 0, 0, 0), 0)]
WRONG_LASTS = [(2,), (-1,), (0, 0), (0, 1, 0), (True,), (0, False), (None,), ("0",), ((0,),), ([0],), [0], {0: 0},
               (10 ** 60,), (COPY,), "0", 0]


def are_choices(value):
    """Whether the strangers' value is right for choices of a row with two states and one line of each kind."""
    return type(value) is tuple and (value == () or value == ((0, 0, 0, 0),))


def are_lasts(value):
    """Whether the strangers' value is right for last states of a row with two states."""
    return type(value) is tuple and (value == () or (value == (0,) and type(value[0]) is int))


WRONG_CHOICES = WRONG_CHOICES + [value for value in strangers() if not are_choices(value)]
WRONG_LASTS = WRONG_LASTS + [value for value in strangers() if not are_lasts(value)]


class ExamplesTest(Checked):

    def test_values(self):
        self.assertEqual((COPY.reads, COPY.writes, COPY.states, COPY.choices, COPY.lasts),
                         (1, 1, 1, ((0, 0, 0, 0), (0, 1, 1, 0)), (0,)))
        self.assertEqual(FREE.choices, ((0, 0, 0, 0), (0, 1, 0, 0), (0, 1, 1, 0)))
        self.assertEqual((ONCE.states, ONCE.lasts, len(LATE), LATE.lasts), (2, (0, 1), 8, (0, 1)))

    def test_what_they_are_said_to_do(self):
        for width in range(6):
            for question in oracles.texts(2, width):
                self.assertEqual(COPY.answers(question), (question,))
                self.assertEqual(len(FREE.answers(question)), 2 ** question.count("1"))
                self.assertEqual(len(ONCE.answers(question)), 1 + question.count("1"))
                self.assertEqual(LATE.answers(question), ((question + "0")[1:] if question else "",))

    def test_answers(self):
        self.assertEqual([COPY.answers("01"), FREE.answers("101"), FREE.walks("11"), ONCE.answers("11"),
                          LATE.answers("011"), LATE.is_answer("01", "10"), LATE.is_answer("01", "1"),
                          LATE.answers("")],
                         [("01",), ("000", "001", "100", "101"), 4, ("00", "01", "10"), ("110",), True, False, ("",)])

    def test_rows_as_values(self):
        self.assertEqual([FREE == COPY.also_with(choices=((0, 1, 0, 0),)), COPY.also_with(lasts=(0,)) == COPY,
                          len(ONCE), (0, 1, 0, 0) in ONCE, list(COPY), str(LATE)],
                         [True, True, 5, True, [(0, 0, 0, 0), (0, 1, 1, 0)],
                          "mayrow from 1 to 1 lines, 3 states, 8 choices"])


class MakingTest(Checked):

    def test_constants(self):
        self.assertEqual((rows.MAX_STATES, rows.MAX_CHOICES, rows.MAX_ANSWERS), (6, 576, 1000))

    def test_properties(self):
        row = Mayrow(2, 1, 3, ((2, 3, 1, 0), (0, 0, 0, 2), (0, 0, 0, 1)), (2, 0))
        self.assertEqual((row.reads, row.writes, row.states), (2, 1, 3))
        self.assertEqual(row.choices, ((0, 0, 0, 1), (0, 0, 0, 2), (2, 3, 1, 0)))
        self.assertEqual(row.lasts, (0, 2))

    def test_any_order_of_choices_and_last_states(self):
        for choices in permutations(FREE.choices):
            self.assertEqual(Mayrow(1, 1, 1, choices, (0,)), FREE)
        for lasts in permutations((0, 1, 2)):
            self.assertEqual(Mayrow(1, 1, 3, (), lasts).lasts, (0, 1, 2))

    def test_least_and_greatest(self):
        empty = Mayrow(1, 1, 1, (), ())
        self.assertEqual((empty.choices, empty.lasts, len(empty), empty.answers(""), empty.answers("0")),
                         ((), (), 0, (), ()))
        choices = tuple([(state, letter, answer, following) for state in range(6) for letter in range(4)
                         for answer in range(4) for following in range(6)])
        full = Mayrow(2, 2, 6, choices, (0, 1, 2, 3, 4, 5))
        self.assertEqual((len(full), full.choices, full.lasts), (576, choices, (0, 1, 2, 3, 4, 5)))
        self.assertEqual(full.walks("30"), 24 ** 2)

    def test_no_last_states_or_no_choices(self):
        for question in ("", "0", "01"):
            self.assertEqual(Mayrow(1, 1, 1, FREE.choices, ()).answers(question), ())
            self.assertEqual(Mayrow(1, 1, 1, FREE.choices, ()).walks(question), 0)
            self.assertEqual(Mayrow(1, 1, 2, (), (0,)).answers(question), ("",) if question == "" else ())
            self.assertEqual(Mayrow(1, 1, 2, (), (1,)).answers(question), ())

    def test_letters_hang_on_the_lines(self):
        for reads in (1, 2):
            for writes in (1, 2):
                for letter in range(5):
                    for answer in range(5):
                        choices = ((0, letter, answer, 0),)
                        if letter < 2 ** reads and answer < 2 ** writes:
                            self.assertEqual(Mayrow(reads, writes, 1, choices, ()).choices, choices)
                        else:
                            self.assertRaisesThis(InvalidRow, None, Mayrow, reads, writes, 1, choices, ())

    def test_states_hang_on_their_number(self):
        for states in range(1, 7):
            for state in range(7):
                for choices, lasts in ((((state, 0, 0, 0),), ()), (((0, 0, 0, state),), ()), ((), (state,))):
                    if state < states:
                        self.assertEqual(Mayrow(1, 1, states, choices, lasts).states, states)
                    else:
                        self.assertRaisesThis(InvalidRow, None, Mayrow, 1, 1, states, choices, lasts)

    def test_no_states_and_too_many(self):
        for states in (-1, 0, 7, True):
            self.assertRaisesThis(InvalidRow, None, Mayrow, 1, 1, states, (), ())

    def test_wrong_arguments(self):
        self.check_wrong(Mayrow, (1, 1, 2, ((0, 0, 0, 0),), (0,)),
                         (InvalidRow, wrong_numbers(1, 2)), (InvalidRow, wrong_numbers(1, 2)),
                         (InvalidRow, wrong_numbers(1, 6)), (InvalidRow, WRONG_CHOICES), (InvalidRow, WRONG_LASTS))


class AnswersTest(Checked):

    def test_answers_and_walks_of_many_rows(self):
        for seed in range(60):
            row = random_row(seed, 1 + seed % 2, 1 + seed // 2 % 2)
            for width in range(4):
                for question in oracles.texts(2 ** row.reads, width):
                    ends = oracles.walk_ends(row, question)
                    self.assertEqual(self.answer(row.answers, question), oracles.row_answers(row, question))
                    self.assertEqual(self.answer(row.walks, question),
                                     len([state for text, state in ends if state in row.lasts]))

    def test_is_answer_of_many_rows(self):
        for seed in range(40):
            row = random_row(seed, 1 + seed % 2, 1 + seed // 2 % 2)
            for width in range(3):
                for question in oracles.texts(2 ** row.reads, width):
                    right = oracles.row_answers(row, question)
                    for other in range(3):
                        for answer in oracles.texts(2 ** row.writes, other):
                            self.assertIs(self.answer(row.is_answer, question, answer), answer in right)

    def test_one_answer_can_have_several_walks(self):
        row = Mayrow(1, 1, 2, ((0, 0, 0, 0), (0, 0, 0, 1), (1, 0, 0, 0), (1, 0, 0, 1)), (0, 1))
        self.assertEqual((row.answers("000"), row.walks("000")), (("000",), 8))

    def test_the_empty_question(self):
        for lasts in ((), (0,), (1,), (0, 1)):
            row = Mayrow(1, 1, 2, ONCE.choices, lasts)
            self.assertEqual(row.answers(""), ("",) if 0 in lasts else ())
            self.assertEqual(row.walks(""), int(0 in lasts))
            self.assertIs(row.is_answer("", ""), 0 in lasts)

    def test_a_thousand_answers_and_one_more(self):
        # 1000 is 1111101000 in the digits 0 and 1; each digit doubles, and a 1 adds one.
        question = "101010101001000"
        self.assertEqual(question, "0".join(list("11111")) + "00" + "1" + "000")
        found = self.answer(HORNER.answers, question)
        self.assertEqual((len(found), HORNER.walks(question)), (1000, 1000))
        self.assertEqual(found, oracles.row_answers(HORNER, question))
        self.assertEqual(HORNER.walks(question + "1"), 1001)
        self.assertTooMany(1000, HORNER.answers, question + "1")
        self.assertTooMany(1000, FREE.answers, "1" * 10)
        self.assertEqual(len(FREE.answers("1" * 9)), 512)

    def test_texts_that_only_begin_answers_do_not_count(self):
        # More than 1000 texts are written on the way, but the last letter can be read after one of them alone.
        row = Mayrow(1, 1, 2, ((0, 1, 0, 0), (0, 1, 1, 1), (1, 1, 0, 1), (1, 1, 1, 1), (0, 0, 0, 0)), (0,))
        self.assertEqual(row.answers("1" * 199 + "0"), ("0" * 200,))

    def test_widest_questions(self):
        self.assertEqual(len(self.answer(ONCE.answers, "1" * 200)), 201)
        self.assertEqual(self.answer(COPY.answers, "01" * 100), ("01" * 100,))
        self.assertEqual(self.answer(LATE.answers, "01" * 100), ("10" * 100,))
        self.assertEqual(self.answer(FREE.walks, "1" * 200), 2 ** 200)
        self.assertIs(self.answer(FREE.is_answer, "1" * 200, "01" * 100), True)
        self.assertIs(self.answer(FREE.is_answer, "0" * 200, "01" * 100), False)
        self.assertTooMany(1000, FREE.answers, "1" * 200)

    def test_very_many_walks(self):
        choices = tuple([(state, letter, 0, following) for state in range(6) for letter in range(4)
                         for following in range(6)])
        row = Mayrow(2, 1, 6, choices, (0, 1, 2, 3, 4, 5))
        self.assertEqual(self.answer(row.walks, "0123" * 50), 6 ** 200)
        self.assertEqual(self.answer(row.answers, "0123" * 50), ("0" * 200,))
        self.assertIs(row.is_answer("0123" * 50, "0" * 200), True)

    def test_answers_of_unlike_width(self):
        self.assertIs(COPY.is_answer("00", "0"), False)
        self.assertIs(COPY.is_answer("0", "00"), False)
        self.assertIs(COPY.is_answer("", "0"), False)
        self.assertIs(COPY.is_answer("0", ""), False)

    def test_wrong_arguments(self):
        for row in (random_row(1, 1, 2), random_row(2, 2, 1), COPY, LATE):
            question = (InvalidText, wrong_texts(2 ** row.reads))
            self.check_wrong(row.answers, ("01",), question)
            self.check_wrong(row.walks, ("01",), question)
            self.check_wrong(row.is_answer, ("01", "11"), question, (InvalidText, wrong_texts(2 ** row.writes)))
        self.assertRaisesThis(InvalidText, None, COPY.is_answer, "0", "2")
        self.assertRaisesThis(InvalidText, None, COPY.is_answer, "0", "22")


class AlsoWithTest(Checked):

    def test_more_choices_and_last_states(self):
        for seed in range(30):
            row = random_row(seed, most=2)
            choices = tuple([choice for choice in random_row(seed + 1, most=1).choices])
            more = self.answer(row.also_with, choices=choices, lasts=(0,))
            self.assertEqual(more.choices, tuple(sorted(set(row.choices) | set(choices))))
            self.assertEqual(more.lasts, tuple(sorted(set(row.lasts) | {0})))
            self.assertEqual((more.reads, more.writes, more.states), (row.reads, row.writes, row.states))

    def test_nothing_more(self):
        for row in (COPY, FREE, ONCE, LATE):
            self.assertEqual(self.answer(row.also_with), row)
            self.assertEqual(self.answer(row.also_with, choices=row.choices, lasts=row.lasts[::-1]), row)
            self.assertEqual(self.answer(row.also_with, choices=(), lasts=()), row)

    def test_the_row_stays_as_it_is(self):
        row = Mayrow(1, 1, 2, ((0, 0, 0, 0),), (0,))
        row.also_with(choices=((1, 1, 1, 1),), lasts=(1,))
        self.assertEqual((row.choices, row.lasts, row.answers("1")), (((0, 0, 0, 0),), (0,), ()))

    def test_wrong_arguments(self):
        row = Mayrow(1, 1, 2, ((0, 1, 0, 1),), (1,))
        self.check_wrong(lambda choices, lasts: row.also_with(choices=choices, lasts=lasts),
                         (((0, 0, 0, 0),), (0,)), (InvalidRow, WRONG_CHOICES), (InvalidRow, WRONG_LASTS))


class RowsAsValuesTest(Checked):

    def test_equal_rows(self):
        for row in (COPY, FREE, ONCE, LATE):
            again = Mayrow(row.reads, row.writes, row.states, row.choices[::-1], row.lasts[::-1])
            self.assertIs(row == again, True)
            self.assertIs(row != again, False)

    def test_each_property_counts(self):
        row = Mayrow(1, 1, 2, ((0, 0, 0, 0),), (0,))
        for other in (Mayrow(2, 1, 2, ((0, 0, 0, 0),), (0,)), Mayrow(1, 2, 2, ((0, 0, 0, 0),), (0,)),
                      Mayrow(1, 1, 1, ((0, 0, 0, 0),), (0,)), Mayrow(1, 1, 2, (), (0,)),
                      Mayrow(1, 1, 2, ((0, 0, 0, 0),), ())):
            self.assertIs(row == other, False)
            self.assertIs(row != other, True)

    def test_the_same_answers_do_not_make_equal_rows(self):
        longer = Mayrow(1, 1, 2, ((0, 0, 0, 1), (0, 1, 1, 1), (1, 0, 0, 0), (1, 1, 1, 0)), (0, 1))
        for width in range(5):
            for question in oracles.texts(2, width):
                self.assertEqual(longer.answers(question), COPY.answers(question))
        self.assertIs(longer == COPY, False)

    def test_other_values(self):
        for value in strangers() + [10 ** 5000, "0" * 5000]:
            if value not in (COPY, LATE):
                self.assertIs(COPY == value, False)
                self.assertIs(COPY != value, True)
                self.assertIs(value == COPY, False)
        self.assertIs(COPY == Table.of(COPY), False)

    def test_in(self):
        for choice in ONCE.choices:
            self.assertIs(choice in ONCE, True)
        for value in strangers() + [(0, 0, 0, False), (0, 1, True, 1), (0, True, 1, 1), (0, 0, 0, 1), (0, 0, 0),
                                    (0, 0, 0, 0, 0), [0, 0, 0, 0], (0, 0, 0, "0"), (0, 0, 0, 10 ** 5000)]:
            if value != (0, 0, 0, 0) or type(value[3]) is bool:
                self.assertIs(value in ONCE, False)

    def test_length_iteration_and_string(self):
        for seed in range(20):
            row = random_row(seed, 1 + seed % 2, 1 + seed // 2 % 2)
            self.assertEqual(len(row), len(row.choices))
            self.assertEqual(list(row), sorted(row.choices))
            self.assertEqual([choice for choice in row], [choice for choice in row])
            self.assertEqual(str(row), "mayrow from {} to {} lines, {} states, {} choices".format(
                row.reads, row.writes, row.states, len(row.choices)))
        self.assertEqual(str(Mayrow(1, 2, 3, (), ())), "mayrow from 1 to 2 lines, 3 states, 0 choices")

    def test_rows_never_change(self):
        for name in ("reads", "writes", "states", "choices", "lasts"):
            with self.assertRaises(AttributeError):
                setattr(COPY, name, getattr(COPY, name))
            self.assertIsPlain(getattr(LATE, name))
        self.assertEqual(Counter(COPY), Counter(list(COPY.choices)))


class MethodsTest(Checked):

    def test_methods_are_defined_in_the_class(self):
        for name in ("answers", "is_answer", "walks", "also_with", "__eq__", "__len__", "__contains__", "__iter__",
                     "__str__", "reads", "writes", "states", "choices", "lasts"):
            self.assertIn(name, vars(Mayrow))
