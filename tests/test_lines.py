"""Points 12.1 to 12.6: which lines of a table tell which, and papers on it."""

import random
import unittest
from itertools import product

from mayrows.ahead.single import is_single
from mayrows.errors import InvalidNumber, InvalidOperation, InvalidTable
from mayrows.line.lines import is_line_paper, keys, least_parted, line_paper, tells, told_lines
from mayrows.row.rows import Mayrow
from mayrows.table.calculus import everything, letterwise, nothing, same, turned
from mayrows.table.tables import Table
from mayrows.table.within import is_within
from tests import counting, gaming, oracles
from tests.checking import Checked, is_same, spoilt, strangers, wrong_numbers, wrong_tables
from tests.samples import (COPY, FAR, FREE, HALF, LATE, ODD, ONCE, late_table, moves_table, random_row, random_table,
                           round_table, widths_table)

C, F, O, L, A = [Table.of(row) for row in (COPY, FREE, ONCE, LATE, FAR)]
BEAT = Table.of(Mayrow(1, 1, 5, ((0, 0, 0, 1), (0, 0, 1, 3), (1, 0, 0, 2), (2, 0, 0, 1), (3, 0, 1, 4), (4, 0, 1, 3)),
                       (2, 3)))
BEAT_PAPER = ("told", ((0, 0), (1, 1), (2, 2), (4, 4), (5, 5)), ((1, 2), (2, 1), (4, 5), (5, 4)))
# On two read lines stand a text and the same one, on the written line their letters' sum.
TWICE = letterwise(2, 1, ((0, 0), (3, 1)))
SUM = letterwise(2, 1, ((0, 0), (1, 1), (2, 1), (3, 0)))
# [0.18] Each of three lines is told by the other ones, but each question has two answers.
PAIRED = letterwise(1, 2, ((0, 0), (0, 3), (1, 1), (1, 2)))


# What `sums` has worked out.
KNOWN = []


def some_tables():
    """Tables of all kinds, with few states."""
    yield from [C, F, O, L, A, BEAT, TWICE, SUM, PAIRED, turned(SUM), Table.of(HALF), Table.of(ODD), late_table(2)]
    for reads, writes in product((1, 2), repeat=2):
        yield from [nothing(reads, writes), everything(reads, writes), round_table(3, 0, reads, writes)]
        for seed in range(6):
            yield random_table(seed, reads, writes, 3)
            yield Table.of(random_row(seed + 7, reads, writes, 2))
    for seed in range(40):
        yield Table.of(random_row(seed + 400, 1, 1, 2))
        yield few_moves_table(seed)


def few_moves_table(seed):
    """A table with few moves, so that lines often tell others."""
    chance = random.Random(seed)
    states, reads, writes = chance.randint(2, 3), chance.randint(1, 2), chance.randint(1, 2)
    moves = {}
    for _ in range(chance.randint(2, 5)):
        moves[chance.randrange(states), chance.randrange(2 ** reads), chance.randrange(2 ** writes)] = (
            chance.randrange(states))
    return moves_table(reads, writes, [chance.random() < 0.5 for _ in range(states)],
                       [key + (value,) for key, value in moves.items()])


def sums():
    """Each table with each set of lines and each line, and whether they tell it."""
    if not KNOWN:
        for table in some_tables():
            for lines in gaming.subsets(table.reads + table.writes):
                for line in range(table.reads + table.writes):
                    KNOWN.append((table, lines, line, gaming.does_tell(table, lines, line)))
    return KNOWN


def ring_table(one, two):
    """A table of two rings; pairs part at their first letter, and both come to last states in so many letters."""
    moves = [(0, 0, 0, 1), (0, 0, 1, 1 + one)]
    moves += [(1 + at, 0, 0, 1 + (at + 1) % one) for at in range(one)]
    moves += [(1 + one + at, 0, 0, 1 + one + (at + 1) % two) for at in range(two)]
    return moves_table(1, 1, [False] + [at == one - 1 for at in range(one)] + [at == two - 1 for at in range(two)],
                       moves)


def merging_table(last):
    """A table in which two pairs with one question part late, and then come late to one state, which is last.

    The letter 0 leads around a ring of 19 states, the letter 1 changes one of them only, and the letter 2 can be
    read in two of them, with unlike digits on the second written line.
    """
    moves = [(0, 3, 0, 4), (0, 3, 1, 10), (6, 2, 0, 6), (14, 2, 2, 14)]
    for at in range(19):
        moves += [(1 + at, 0, 0, 1 + (at + 1) % 19), (1 + at, 1, 0, 1 + at % 18)]
    return moves_table(2, 2, [False] + [at == last for at in range(19)], moves)


class ExamplesTest(Checked):

    def test_examples(self):
        self.assertEqual([keys(table) for table in (C, F, L, BEAT)], [((0,), (1,)), ((0, 1),), ((0,),), ((),)])
        self.assertEqual([tells(L, (0,), 1), told_lines(L, (1,)), least_parted(L, (1,), 0), least_parted(F, (0,), 1)],
                         [True, (1,), (("0", "0"), ("1", "0")), (("1", "0"), ("1", "1"))])
        self.assertIs(is_line_paper(C, (0,), 1, ("told", ((0, 0),), ())), True)
        self.assertIs(is_line_paper(F, (0,), 1, ("parts", ("01", "00"), ("01", "01"))), True)
        self.assertIs(is_line_paper(BEAT, (), 1, BEAT_PAPER), True)


class TellsTest(Checked):

    def test_all_couples(self):
        found = {True: 0, False: 0}
        for table, lines, line, expected in sums():
            found[expected] += 1
            self.assertIs(self.answer(tells, table, lines, line), expected)
        self.assertGreater(min(found.values()), 300)

    def test_all_pairs_of_small_widths(self):
        for table, lines, line, is_told in sums():
            least = self.answer(least_parted, table, lines, line)
            self.assertIs(least is None, is_told)
            for width in range(counting.small(table)):
                expected = gaming.parted_pairs(table, lines, line, width)
                if least is None or width < len(least[0][0]):
                    self.assertIsNone(expected)
                elif width == len(least[0][0]):
                    self.assertEqual(expected, least)

    def test_told_lines(self):
        for table in some_tables():
            every = range(table.reads + table.writes)
            for lines in gaming.subsets(table.reads + table.writes):
                told = self.answer(told_lines, table, lines)
                self.assertEqual(told, tuple([line for line in every if tells(table, lines, line)]))
                # [0.16] A closure.
                self.assertLessEqual(set(lines), set(told))
                self.assertEqual(told_lines(table, told), told)
                for more in gaming.subsets(table.reads + table.writes):
                    if set(lines) <= set(more):
                        self.assertLessEqual(set(told), set(told_lines(table, more)))

    def test_keys(self):
        for table in some_tables():
            many = table.reads + table.writes
            whole = [lines for lines in gaming.subsets(many) if len(told_lines(table, lines)) == many]
            expected = [lines for lines in whole if not any(set(fewer) < set(lines) for fewer in whole)]
            self.assertEqual(self.answer(keys, table), tuple(sorted(expected)))
        self.assertEqual(keys(SUM), ((0, 1), (0, 2), (1, 2)))
        self.assertEqual(keys(TWICE), ((0,), (1,), (2,)))
        self.assertEqual(keys(same(2)), ((0, 1), (0, 3), (1, 2), (2, 3)))
        self.assertEqual(keys(PAIRED), ((0, 1), (0, 2), (1, 2)))
        self.assertEqual(keys(everything(2, 2)), ((0, 1, 2, 3),))

    def test_one_answer(self):
        for table in some_tables():
            reads = tuple(range(table.reads))
            self.assertIs(len(told_lines(table, reads)) == table.reads + table.writes, is_single(table))
        for line in range(3):
            self.assertIs(tells(PAIRED, tuple([other for other in range(3) if other != line]), line), True)
        self.assertFalse(is_single(PAIRED))

    def test_turned_tables(self):
        for table, lines, line, _ in sums():
            other = turned(table)
            places = [table.writes + at for at in range(table.reads)] + list(range(table.writes))
            self.assertIs(tells(other, tuple(sorted([places[at] for at in lines])), places[line]),
                          tells(table, lines, line))

    def test_tables_within(self):
        known = [table for table in some_tables() if (table.reads, table.writes) == (1, 1)][:30]
        for one, other in product(known, repeat=2):
            if is_within(one, other):
                for lines, line in product(gaming.subsets(2), range(2)):
                    self.assertTrue(tells(one, lines, line) or not tells(other, lines, line))

    def test_tables_without_pairs(self):
        for reads, writes in product((1, 2), repeat=2):
            table = nothing(reads, writes)
            every = tuple(range(reads + writes))
            for lines in gaming.subsets(reads + writes):
                self.assertEqual(told_lines(table, lines), every)
                for line in every:
                    self.assertIs(tells(table, lines, line), True)
                    self.assertIsNone(least_parted(table, lines, line))
                    self.assertEqual(line_paper(table, lines, line), ("told", (), ()))
                    self.assertIs(is_line_paper(table, lines, line, ("told", ((0, 0),), ())), False)
            self.assertEqual(keys(table), ((),))

    def test_many_useful_states(self):
        # 18 places ahead of a choice, then a last state: 20 useful states, and 21 with one place more.
        for many, error in ((20, False), (21, True)):
            table = widths_table([False] * (many - 1) + [True, False])
            self.assertEqual(len(oracles.useful(table)), many)
            for function, rest in ((tells, ((0,), 1)), (told_lines, ((0,),)), (keys, ()), (least_parted, ((0,), 1)),
                                   (line_paper, ((0,), 1)), (is_line_paper, ((0,), 1, None))):
                if error:
                    self.assertTooMany(20, function, table, *rest)
                else:
                    self.answer(function, table, *rest)
        self.assertEqual(least_parted(widths_table([False] * 19 + [True, False]), (), 0),
                         (("0" * 19, "0" * 19), ("0" * 18 + "1", "0" * 19)))

    def test_wide_pairs(self):
        # Both come to last states after the least width that both lengths of rings allow.
        for one, two, width in ((2, 3, 6), (4, 5, 20), (7, 9, 63), (9, 10, 90)):
            table = ring_table(one, two)
            self.assertEqual(least_parted(table, (0,), 1), (("0" * width, "0" * width),
                                                            ("0" * width, "1" + "0" * (width - 1))))
            self.assertIs(tells(table, (0,), 1), False)
        table = ring_table(2, 4)
        self.assertIs(tells(table, (0,), 1), False)
        self.assertIs(tells(BEAT, (0,), 1), True)

    def test_pairs_of_more_than_200_letters(self):
        for last, width in ((9, 200), (10, 201), (18, 209)):
            table = merging_table(last)
            self.assertEqual(len(oracles.useful(table)), 20)
            self.assertIs(tells(table, (0, 1), 3), False)
            if width == 200:
                one, other = least_parted(table, (0, 1), 3)
                self.assertEqual((len(one[0]), line_paper(table, (0, 1), 3)), (200, ("parts", one, other)))
                self.assertIs(gaming.is_line_paper(table, (0, 1), 3, ("parts", one, other)), True)
            else:
                self.assertTooMany(200, least_parted, table, (0, 1), 3)
                self.assertTooMany(200, line_paper, table, (0, 1), 3)
            self.assertIs(is_line_paper(table, (0, 1), 3, ("told", ((0, 0),), ())), False)
            self.assertEqual(told_lines(table, (0, 1)), (0, 1))
            self.assertEqual(told_lines(table, (0, 1, 2)), (0, 1, 2, 3))


class PapersTest(Checked):

    def test_told_papers_are_right(self):
        kinds = {"told": 0, "parts": 0}
        for table, lines, line, is_told in sums():
            paper = self.answer(line_paper, table, lines, line)
            kinds[paper[0]] += 1
            self.assertEqual(paper[0] == "told", is_told)
            self.assertIs(gaming.is_line_paper(table, lines, line, paper), True)
            self.assertIs(self.answer(is_line_paper, table, lines, line, paper), True)
        self.assertGreater(min(kinds.values()), 300)

    def test_each_two_pairs(self):
        for table, lines, line in ((F, (0,), 1), (O, (1,), 0), (L, (1,), 0), (SUM, (1,), 2), (C, (), 1),
                                   (PAIRED, (0,), 1)):
            pairs = oracles.pairs_to(table, 2)
            for one, other in product(pairs, repeat=2):
                value = ("parts", one, other)
                self.assertIs(is_line_paper(table, lines, line, value), gaming.is_line_paper(table, lines, line, value))
        # Pairs of unlike widths show nothing, also beside no lines at all.
        self.assertIs(is_line_paper(C, (), 1, ("parts", ("0", "0"), ("00", "00"))), False)
        self.assertIs(is_line_paper(C, (), 1, ("parts", ("0", "0"), ("1", "1"))), True)
        self.assertIs(is_line_paper(F, (0,), 1, ("parts", ("1" * 200, "0" * 200), ("1" * 200, "1" * 200))), True)
        self.assertIs(is_line_paper(F, (0,), 1, ("parts", ("1" * 201, "0" * 201), ("1" * 201, "1" * 201))), False)

    def test_other_couples(self):
        # Couples may be dead without need, and there may be more of them.
        for table, lines, line in ((BEAT, (), 1), (L, (0,), 1), (C, (0,), 1), (SUM, (0, 2), 1), (turned(L), (1,), 0)):
            kind, live, dead = line_paper(table, lines, line)
            kept = oracles.useful(table)
            found = {True: 0, False: 0}
            for couple in product(kept, repeat=2):
                for one, other in ((True, False), (False, True), (False, False), (True, True)):
                    value = (kind, changed(live, couple, one), changed(dead, couple, other))
                    right = gaming.is_line_paper(table, lines, line, value)
                    found[right] += 1
                    self.assertIs(is_line_paper(table, lines, line, value), right)
            self.assertGreater(min(found.values()), 0)
        # All couples of a table without two last states behind one another can be dead.
        self.assertIs(is_line_paper(C, (0,), 1, ("told", (), ((0, 0),))), False)

    def test_spoilt_papers(self):
        wrong = 0
        for table, lines, line in ((BEAT, (), 1), (L, (0,), 1), (L, (1,), 0), (C, (0,), 1), (F, (0,), 1),
                                   (SUM, (0,), 2), (TWICE, (2,), 0), (PAIRED, (), 2), (nothing(1, 1), (), 0)):
            for value in spoilt(line_paper(table, lines, line)):
                right = gaming.is_line_paper(table, lines, line, value)
                wrong += not right
                self.assertIs(is_line_paper(table, lines, line, value), right, value)
        self.assertGreater(wrong, 1000)

    def test_any_value_can_be_judged(self):
        for part in strangers() + [10 ** 5000, "1" * 5000, "told", "parts"]:
            for value in (part, (part,), (part, (), ()), (part, ("0", "0"), ("1", "0")), ("told", part, ()),
                          ("told", ((0, 0),), part), ("told", (part,), ()), ("told", ((0, part),), ()),
                          ("told", (), (part,)), ("parts", part, ("1", "0")), ("parts", ("1", "0"), part),
                          ("parts", ("1", part), ("1", "1")), ("parts", ("1", "0"), (part, "1"))):
                for table, lines, line in ((C, (0,), 1), (L, (0,), 1), (F, (0,), 1), (L, (1,), 0)):
                    expected = gaming.is_line_paper(table, lines, line, value)
                    self.assertIs(is_line_paper(table, lines, line, value), expected, value)

    def test_booleans_are_no_integers(self):
        self.assertIs(is_line_paper(L, (0,), 1, line_paper(L, (0,), 1)), True)
        self.assertIs(is_line_paper(C, (0,), 1, ("told", ((False, 0),), ())), False)
        self.assertIs(is_line_paper(C, (0,), 1, ("told", ((0, False),), ())), False)

    def test_states_without_use(self):
        self.assertEqual(oracles.useful(C), (0,))
        for couple in ((1, 1), (0, 1), (1, 0), (2, 2)):
            self.assertIs(is_line_paper(C, (0,), 1, ("told", ((0, 0), couple), ())), False)
            self.assertIs(is_line_paper(C, (0,), 1, ("told", ((0, 0),), (couple,))), False)


def changed(couples, couple, is_in):
    """The couples with or without one of them."""
    return tuple(sorted((set(couples) - {couple}) | ({couple} if is_in else set())))


class WrongTest(Checked):

    def test_wrong_arguments(self):
        tables = (InvalidTable, wrong_tables())
        lines = (InvalidOperation, [value for value in strangers() + [(1, 0), (0, 0), (2,), (0, 2), (-1,), (0, True),
                                                                       (0, 1, 2), [0, 1], (0, 10 ** 99)]
                                    if not any(is_same(value, right) for right in ((), (0,), (1,), (0, 1)))])
        numbers = (InvalidNumber, wrong_numbers(0, 1))
        for function in (tells, least_parted, line_paper):
            self.check_wrong(function, (L, (0,), 1), tables, lines, numbers)
        self.check_wrong(lambda *values: is_line_paper(*values, None), (L, (0,), 1), tables, lines, numbers)
        self.check_wrong(told_lines, (L, (0,)), tables, lines)
        self.check_wrong(keys, (L,), tables)

    def test_lines_of_other_tables(self):
        for reads, writes in product((1, 2), repeat=2):
            many = reads + writes
            table = everything(reads, writes)
            self.assertIs(tells(table, tuple(range(many)), many - 1), True)
            self.assertRaisesThis(InvalidNumber, many, tells, table, (), many)
            self.assertRaisesThis(InvalidOperation, None, tells, table, (many,), 0)
            self.assertRaisesThis(InvalidOperation, None, told_lines, table, tuple(range(many + 1)))

    def test_wrong_ahead_of_too_many(self):
        table = widths_table([False] * 20 + [True, False])
        self.assertRaisesThis(InvalidOperation, None, tells, table, (1, 0), 7)
        self.assertRaisesThis(InvalidNumber, 7, tells, table, (0,), 7)


if __name__ == "__main__":
    unittest.main()
