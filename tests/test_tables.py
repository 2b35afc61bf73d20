"""Points 0.9, 0.11, 0.12 and 3.1 to 3.3: the class `Table`, without its operators."""

from itertools import islice, product

from mayrows.errors import InvalidNumber, InvalidRow, InvalidTable
from mayrows.row.rows import Mayrow
from mayrows.table import tables
from mayrows.table.calculus import everything, nothing
from mayrows.table.tables import Table
from tests import oracles
from tests.checking import Checked, strangers, wrong_numbers, wrong_rows
from tests.samples import (COPY, FREE, LATE, ONCE, SIXTY, SIXTY_ONE, random_row, random_rows, random_table,
                           round_table, widths_table)

C, F, O, L = Table.of(COPY), Table.of(FREE), Table.of(ONCE), Table.of(LATE)


def access_words(table):
    """For each state the ways of indices by which it is reached first, the shorter ones and lesser ones first."""
    words = {0: ()}
    waiting = [0]
    while waiting:
        state = waiting.pop(0)
        for index, following in enumerate(table.rows[state][1]):
            if following not in words:
                words[following] = words[state] + (index,)
                waiting.append(following)
    return words


def lasts_to(table, state, length):
    """Which ways of at most so many indices lead from the state to a last state."""
    if length == 0:
        return table.rows[state][0]
    return (table.rows[state][0],) + tuple([lasts_to(table, following, length - 1)
                                            for following in table.rows[state][1]])


class ExamplesTest(Checked):

    def test_rows(self):
        self.assertEqual([C.rows, O.rows, [len(table) for table in (C, F, O, L)], str(L)],
                         [((True, (0, 1, 1, 0)), (False, (1, 1, 1, 1))),
                          ((True, (0, 1, 0, 2)), (False, (1, 1, 1, 1)), (True, (2, 1, 2, 1))), [2, 2, 3, 4],
                          "table of 4 states"])

    def test_pairs(self):
        self.assertEqual([("11", "10") in O, ("11", "11") in O, ("1", "11") in O, list(L.pairs(2)), next(F.pairs(3))],
                         [True, False, False, [("00", "00"), ("01", "10"), ("10", "00"), ("11", "10")],
                          ("000", "000")])

    def test_told(self):
        self.assertEqual(Table.told(1, 1, ((True, (1, 1, 1, 1)), (True, (0, 0, 0, 0)), (False, (2, 2, 2, 2)))).rows,
                         ((True, (0, 0, 0, 0)),))
        with self.assertRaises(InvalidTable):
            Table.told(1, 1, ())

    def test_as_row(self):
        self.assertEqual([C.as_row().choices[:3], Table.of(L.as_row()) == L, bool(C)],
                         [((0, 0, 0, 0), (0, 0, 1, 1), (0, 1, 0, 1)), True, True])

    def test_order_of_pairs(self):
        both = Table.told(1, 1, ((False, (1, 1, 1, 1)), (False, (2, 2, 2, 2)), (True, (2, 2, 2, 2))))
        found = list(both.pairs(2))
        self.assertLess(found.index(("00", "10")), found.index(("01", "00")))


class OfTest(Checked):

    def test_the_pairs_of_a_row(self):
        for seed in range(80):
            row = random_row(seed, 1 + seed % 2, 1 + seed // 2 % 2)
            table = self.answer(Table.of, row)
            self.assertEqual((table.reads, table.writes), (row.reads, row.writes))
            most = 4 if row.reads + row.writes == 2 else 2
            self.assertEqual(oracles.pairs_to(table, most), oracles.row_pairs_to(row, most))

    def test_equal_tables_are_equal_answers(self):
        made = [random_row(seed, most=2) for seed in range(60)] + [COPY, FREE, ONCE, LATE]
        found = [(Table.of(row), oracles.row_pairs_to(row, 5)) for row in made]
        for (table, pairs), (other, other_pairs) in product(found, repeat=2):
            self.assertIs(table == other, pairs == other_pairs)

    def test_sets_of_states_can_be_more_than_states(self):
        # The walks lead to the sets (0,), (1, 2) and (2,), of which the last two have the same pairs behind them.
        row = Mayrow(1, 1, 3, ((0, 0, 0, 1), (0, 0, 0, 2), (0, 1, 1, 2), (1, 0, 0, 1), (2, 0, 0, 2)), (1, 2))
        self.assertEqual(Table.of(row).rows, ((False, (1, 2, 2, 1)), (True, (1, 2, 2, 2)), (False, (2, 2, 2, 2))))

    def test_sixty_states_and_one_more(self):
        table = self.answer(Table.of, SIXTY)
        self.assertEqual((len(table), tables.MAX_STATES), (60, 60))
        self.assertEqual(oracles.pairs_to(table, 4), oracles.row_pairs_to(SIXTY, 4))
        self.assertTooMany(60, Table.of, SIXTY_ONE)

    def test_rows_without_choices_or_last_states(self):
        self.assertEqual(Table.of(Mayrow(2, 1, 1, (), ())), nothing(2, 1))
        self.assertEqual(Table.of(Mayrow(1, 1, 1, FREE.choices, ())), nothing(1, 1))
        self.assertEqual(Table.of(Mayrow(1, 1, 1, (), (0,))).rows, ((True, (1, 1, 1, 1)), (False, (1, 1, 1, 1))))

    def test_wrong_argument(self):
        self.check_wrong(Table.of, (COPY,), (InvalidRow, wrong_rows()))


class ToldTest(Checked):

    def test_the_pairs_that_are_told(self):
        for seed in range(60):
            reads, writes = 1 + seed % 2, 1 + seed // 2 % 2
            rows = random_rows(seed, reads, writes, 1 + seed % 6)
            table = self.answer(Table.told, reads, writes, rows)
            for width in range(4 if reads + writes == 2 else 3):
                for pair in product(oracles.texts(2 ** reads, width), oracles.texts(2 ** writes, width)):
                    state = 0
                    for letter, answer in zip(*pair):
                        state = rows[state][1][int(letter) * 2 ** writes + int(answer)]
                    self.assertIs(pair in table, rows[state][0])

    def test_rows_are_the_least_ones(self):
        for seed in range(60):
            table = random_table(seed, many=1 + seed % 6)
            words = access_words(table)
            self.assertEqual(sorted(words), list(range(len(table))))
            told = [lasts_to(table, state, len(table) - 1) for state in words]
            self.assertEqual(len(set(told)), len(told))

    def test_states_are_numbered_as_they_are_met(self):
        for seed in range(60):
            table = random_table(seed, 1 + seed % 2, 1 + seed // 2 % 2, many=1 + seed % 9)
            words = access_words(table)
            met = sorted(words, key=lambda state: (len(words[state]), words[state]))
            self.assertEqual(met, list(range(len(table))))

    def test_the_same_pairs_have_equal_rows(self):
        for seed in range(40):
            rows = random_rows(seed, many=5)
            table = Table.told(1, 1, rows)
            # Each state is told twice, and the second one is next where the index is odd; a further one is not reached.
            twice = tuple([(last, tuple([at + 5 * (index % 2) for index, at in enumerate(nexts)]))
                           for last, nexts in rows + rows]) + ((True, (10, 0, 3, 7)),)
            self.assertEqual(Table.told(1, 1, twice).rows, table.rows)
            self.assertEqual(Table.told(1, 1, table.rows), table)
            order = [0, 4, 2, 3, 1]
            mixed = tuple([(rows[at][0], tuple([order.index(following) for following in rows[at][1]]))
                           for at in order])
            self.assertEqual(Table.told(1, 1, mixed).rows, table.rows)

    def test_a_state_without_use_is_a_state_like_others(self):
        self.assertEqual(len(C), 2)
        self.assertEqual(C.rows[1], (False, (1, 1, 1, 1)))

    def test_unlike_lines_make_unlike_tables(self):
        made = [nothing(reads, writes) for reads in (1, 2) for writes in (1, 2)]
        for one, other in product(made, repeat=2):
            self.assertIs(one == other, one.reads == other.reads and one.writes == other.writes)

    def test_sixty_rows_and_one_more(self):
        for many in (1, 60):
            table = widths_table([k == many - 1 for k in range(many)])
            self.assertEqual(len(table), many)
        rows = tuple([(k == 60, (min(k + 1, 60),) * 4) for k in range(61)])
        self.assertRaisesThis(InvalidTable, rows, Table.told, 1, 1, rows)
        self.assertRaisesThis(InvalidTable, rows, Table.told, 1, 1, ((True, (0, 0, 0, 0)),) * 61)
        self.assertEqual(len(Table.told(1, 1, ((True, (0, 0, 0, 0)),) * 60)), 1)

    def test_wrong_arguments(self):
        nexts = (0, 0, 0, 1)
        good = ((True, nexts), (False, nexts))
        wrong = [good + ((True, (0, 0, 0, 3)),), good + ((True, (0, 0, 0, -1)),), good + ((True, (0, 0, 0)),),
                 good + ((True, (0, 0, 0, 0, 0)),), good + ((1, nexts),), good + ((0, nexts),), good + ((None, nexts),),
                 good + (("True", nexts),), good + ((True, list(nexts)),), good + ([True, nexts],), list(good),
                 good + ((True, (0, 0, 0, True)),), good + ((True, (0, 0, False, 0)),), good + ((True, nexts, ()),),
                 good + ((True,),), good + ((),), good + (None,), good + (0,), good + ("",), good + (C,),
                 good + ((True, (0, 0, 0, None)),), good + ((True, (0, 0, 0, "0")),), good + ((True, (0, 0, 0, C)),),
                 good + ((True, (0, 0, 0, 10 ** 60)),), good + ((True, None),), good + ((True, {}),), (good,), {0: good}]
        self.check_wrong(Table.told, (1, 1, good), (InvalidNumber, wrong_numbers(1, 2)),
                         (InvalidNumber, wrong_numbers(1, 2)), (InvalidTable, wrong + strangers()))

    def test_lines_tell_how_many_next_states_there_are(self):
        for reads, writes, many in product((1, 2), (1, 2), (1, 2, 4, 8, 16, 32)):
            rows = ((True, (0,) * many),)
            if many == 2 ** (reads + writes):
                self.assertEqual(Table.told(reads, writes, rows), everything(reads, writes))
            else:
                self.assertRaisesThis(InvalidTable, rows, Table.told, reads, writes, rows)


class InTest(Checked):

    def test_all_pairs_of_small_widths(self):
        for seed in range(30):
            row = random_row(seed, 1 + seed % 2, 1 + seed // 2 % 2)
            table = Table.of(row)
            for width, other in product(range(3), repeat=2):
                for question in oracles.texts(2 ** row.reads, width):
                    right = oracles.row_answers(row, question)
                    for answer in oracles.texts(2 ** row.writes, other):
                        self.assertIs((question, answer) in table, answer in right)

    def test_wide_pairs(self):
        self.assertIs(("01" * 100, "01" * 100) in C, True)
        self.assertIs(("0" * 200, "0" * 200) in everything(1, 1), True)
        self.assertIs(("0" * 201, "0" * 201) in everything(1, 1), False)
        self.assertIs(("0" * 201, "0" * 200) in everything(1, 1), False)

    def test_other_values(self):
        whole = everything(1, 2)
        others = [("2", "0"), ("0", "4"), ("0", "00"), ("00", "0"), ["0", "0"], ("0",), ("0", "0", "0"), "00", ("0", 0),
                  (0, "0"), (None, None), ("", None), ("", []), ((), ()), ("0\n", "00"), ("0", " "), ("0" * 5000, "0" * 5000),
                  10 ** 5000, "0" * 5000, (10 ** 5000, "0"), (COPY, C)]
        for value in strangers() + others:
            self.assertIs(value in whole, False)
        self.assertIs(("", "") in whole, True)
        self.assertIs(("10", "32") in whole, True)


class PairsTest(Checked):

    def test_all_pairs_ascending(self):
        for seed in range(50):
            table = random_table(seed, 1 + seed % 2, 1 + seed // 2 % 2, 1 + seed % 5)
            for width in range(5 if table.reads + table.writes == 2 else 3):
                found = list(table.pairs(width))
                self.assertEqual(found, oracles.pairs_of(table, width))
                self.assertEqual(found, sorted(set(found)))
                self.assertEqual(list(table.pairs(width)), found)

    def test_width_nought(self):
        self.assertEqual([list(table.pairs(0)) for table in (C, F, nothing(1, 1), everything(2, 2))],
                         [[("", "")], [("", "")], [], [("", "")]])

    def test_greatest_width(self):
        self.assertEqual(list(islice(F.pairs(200), 3)),
                         [("0" * 200, "0" * 200), ("0" * 199 + "1", "0" * 200), ("0" * 199 + "1", "0" * 199 + "1")])
        only = widths_table([k == 40 for k in range(50)])
        self.assertEqual(list(only.pairs(200)), [])
        late = Table.told(1, 1, ((False, (0, 1, 1, 1)), (True, (1, 1, 1, 1))))
        self.assertEqual(next(late.pairs(200)), ("0" * 200, "0" * 199 + "1"))

    def test_one_pair_among_very_many(self):
        # Only the question of ones has an answer, and it is its last one.
        only = Table.told(2, 2, ((True, (1,) * 15 + (0,)), (False, (1,) * 16)))
        self.assertEqual(list(only.pairs(200)), [("3" * 200, "3" * 200)])

    def test_errors_are_raised_at_the_first_request(self):
        generator = C.pairs(201)
        with self.assertRaises(InvalidNumber) as caught:
            next(generator)
        self.assertEqual(caught.exception.given, 201)
        self.check_wrong(lambda width: next(F.pairs(width)), (3,), (InvalidNumber, wrong_numbers(0, 200)))


class TablesAsValuesTest(Checked):

    def test_length_truth_and_string(self):
        for seed in range(40):
            table = random_table(seed, many=1 + seed % 7)
            self.assertEqual(len(table), len(table.rows))
            self.assertIs(bool(table), bool(oracles.pairs_to(table, len(table))))
            self.assertEqual(str(table), "table of {} states".format(len(table.rows)))
        self.assertIs(bool(nothing(1, 1)), False)
        self.assertIs(bool(everything(2, 2)), True)
        self.assertIs(bool(widths_table([k == 59 for k in range(60)])), True)

    def test_equality(self):
        for seed in range(20):
            rows = random_rows(seed)
            self.assertIs(Table.told(1, 1, rows) == Table.told(1, 1, rows), True)
            self.assertIs(Table.told(1, 1, rows) != Table.told(1, 1, rows), False)
        self.assertIs(C != F, True)
        for value in strangers() + [C.rows, (1, 1, C.rows), 10 ** 5000, "0" * 5000]:
            if not isinstance(value, Table):
                self.assertIs(C == value, False)
                self.assertIs(C != value, True)
                self.assertIs(value == C, False)

    def test_tables_never_change(self):
        for name in ("reads", "writes", "rows"):
            with self.assertRaises(AttributeError):
                setattr(C, name, getattr(C, name))
            self.assertIsPlain(getattr(L, name))

    def test_tables_are_not_iterated_over(self):
        with self.assertRaises(TypeError):
            iter(C)
        with self.assertRaises(TypeError):
            list(everything(1, 1))

    def test_methods_are_defined_in_the_class(self):
        for name in ("of", "told", "reads", "writes", "rows", "pairs", "as_row", "__contains__", "__len__", "__bool__",
                     "__eq__", "__str__", "__or__", "__and__", "__sub__", "__invert__"):
            self.assertIn(name, vars(Table))


class AsRowTest(Checked):

    def test_the_row_of_a_table(self):
        for seed in range(60):
            table = random_table(seed, 1 + seed % 2, 1 + seed // 2 % 2, 1 + seed % 6)
            row = self.answer(table.as_row)
            self.assertEqual(Table.of(row), table)
            self.assertEqual((row.reads, row.writes, row.states), (table.reads, table.writes, len(table)))
            self.assertEqual(row.lasts, tuple([state for state in range(len(table)) if table.rows[state][0]]))
            choices = [(state, letter, answer, table.rows[state][1][letter * 2 ** table.writes + answer])
                       for state in range(len(table)) for letter in range(2 ** table.reads)
                       for answer in range(2 ** table.writes)]
            self.assertEqual(row.choices, tuple(choices))

    def test_six_states_and_seven(self):
        self.assertEqual(round_table(6, 5).as_row().states, 6)
        self.assertTooMany(6, round_table(7, 6).as_row)
        self.assertTooMany(6, Table.of(SIXTY).as_row)
