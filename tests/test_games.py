"""Points 11.1 to 11.4: which tables can be answered letter by letter, and papers on it."""

import unittest
from itertools import product

from mayrows.ahead.games import can_answer, game_paper, is_game_paper, least_look
from mayrows.errors import InvalidNumber, InvalidTable
from mayrows.table.calculus import behind, everything, nothing, turned
from mayrows.table.ends import unanswered
from mayrows.table.tables import Table
from tests import counting, gaming, oracles
from tests.checking import Checked, spoilt, strangers, wrong_numbers, wrong_tables
from tests.samples import (COPY, FAR, FREE, HALF, LATE, ODD, ONCE, late_table, moves_table, random_row, random_table,
                           round_table, widths_table)

C, F, O, L, A = [Table.of(row) for row in (COPY, FREE, ONCE, LATE, FAR)]
LOST = ((0, "", 2, "0"), (1, "", 1, "1"), (2, "", 0, ""), (3, "", 0, ""))
# Questions of one letter have no answer, all others have each one.
GAP = widths_table((True, False, True))
# Two answer letters can be said first, and only what is asked much later tells which one is right.
PICKS = moves_table(2, 1, [True, True, True, True], [(0, 0, 0, 1), (0, 0, 1, 2), (0, 1, 0, 3), (0, 2, 0, 3),
                                                     (0, 3, 1, 3)]
                    + [(1, letter, 0, 3) for letter in (0, 1, 2)] + [(2, letter, 1, 3) for letter in (1, 2, 3)]
                    + [(3, letter, 0, 3) for letter in range(4)])


def some_tables():
    """Tables of all kinds, with few states."""
    yield from [C, F, O, L, A, GAP, PICKS, ~C, Table.of(HALF), Table.of(ODD), behind(L, L), behind(L, O), turned(L)]
    yield from [late_table(many) for many in range(1, 4)]
    for reads, writes in product((1, 2), repeat=2):
        yield from [nothing(reads, writes), everything(reads, writes), round_table(3, 0, reads, writes)]
        for seed in range(12):
            yield random_table(seed, reads, writes, 3)
            yield Table.of(random_row(seed, reads, writes, 2)) | random_table(seed + 50, reads, writes, 3)


def games():
    """Tables with numbers of letters ahead for which there are not too many positions, and few enough to try."""
    for table in some_tables():
        for ahead in range(4):
            if len(table) * 2 ** (table.reads * ahead) <= 64:
                yield table, ahead


def other_paper(table, ahead):
    """Another game paper than the package tells: greatest letters and few rows, or greater ranks."""
    paper = met_paper(table, ahead)
    if paper is not None:
        return paper
    kind, rows, opening = game_paper(table, ahead)
    rows = tuple([(state, waiting, 3 * rank + 10 ** 59, letter) for state, waiting, rank, letter in rows])
    return kind, rows, opening


def met_paper(table, ahead):
    """A won paper whose rows are those that are met, with the greatest endings and replies, or `None`."""
    good = gaming.positions(table, ahead)
    letters = ["0123"[at] for at in range(2 ** table.reads)]
    said = ["0123"[at] for at in range(2 ** table.writes)][::-1]
    many = None
    while many != len(good):
        many = len(good)
        good = [spot for spot in good if gaming.can_end(table, spot) and all(
            any(gaming.next_position(table, spot, letter, one) in good for one in said) for letter in letters)]
    shorts = [max(counting.answers(table, question), default=None)
              for question in counting.questions_to(table, ahead - 1)]
    met = [(0, text) for text in counting.questions(table, ahead)]
    if None in shorts or not set(met) <= set(good):
        return None
    rows = {}
    for spot in met:
        replies = [[one for one in said if gaming.next_position(table, spot, letter, one) in good][0]
                   for letter in letters]
        endings = [text for text in oracles.texts(2 ** table.writes, ahead)
                   if table.rows[oracles.end_state(table, spot[1], text, spot[0])][0]]
        rows[spot] = spot + (max(endings), "".join(replies))
        for letter, one in zip(letters, replies):
            following = gaming.next_position(table, spot, letter, one)
            if following not in met:
                met.append(following)
    return "won", tuple([rows[spot] for spot in sorted(rows)]), tuple(shorts)


class ExamplesTest(Checked):

    def test_examples(self):
        self.assertEqual([least_look(C), least_look(L), least_look(A), least_look(~C)], [0, 1, None, None])
        self.assertIs(is_game_paper(C, 0, ("won", ((0, "", "", "01"),), ())), True)
        self.assertEqual([is_game_paper(L, ahead, ("lost", LOST, "")) for ahead in (0, 1)], [True, False])


class CanAnswerTest(Checked):

    def test_all_ways_to_answer(self):
        found = {True: 0, False: 0}
        for table, ahead in games():
            expected = gaming.can_answer(table, ahead)
            found[expected] += 1
            self.assertIs(self.answer(can_answer, table, ahead), expected)
        self.assertGreater(min(found.values()), 50)

    def test_one_letter_more(self):
        for table, ahead in games():
            if ahead and can_answer(table, ahead - 1):
                self.assertIs(can_answer(table, ahead), True)
            if can_answer(table, ahead):
                self.assertIsNone(unanswered(table))
                self.assertIs(gaming.is_right_for(table, ahead, 5), True)

    def test_least_look(self):
        for table in some_tables():
            if len(table) * 8 ** table.reads > 192:
                continue
            known = [ahead for ahead in range(4) if can_answer(table, ahead)]
            self.assertEqual(self.answer(least_look, table), known[0] if known else None)
        self.assertEqual([least_look(late_table(many)) for many in range(1, 4)], [None] * 3)
        self.assertEqual([least_look(table) for table in (C, L, behind(L, L), behind(L, behind(L, L)))], [0, 1, 2, 3])
        # [0.18] More letters ahead can be needed behind one another, and an answered table may have no look at all.
        four = behind(behind(L, L), behind(L, L))
        self.assertEqual((gaming.can_answer(four, 3), gaming.can_answer(four, 4)), (False, True))
        self.assertEqual([can_answer(four, ahead) for ahead in range(3)], [False] * 3)
        whole = A | widths_table((True, False))
        self.assertEqual([unanswered(whole), least_look(whole)], [None, None])

    def test_short_questions_without_answer(self):
        self.assertEqual([can_answer(GAP, ahead) for ahead in range(4)], [False] * 4)
        for ahead, table in product(range(1, 4), (GAP, nothing(1, 1), nothing(2, 2))):
            kind, rows, opening = game_paper(table, ahead)
            self.assertEqual(kind, "lost")
            self.assertIs(is_game_paper(table, ahead, ("lost", (), unanswered(table))),
                          len(unanswered(table)) < ahead)
            self.assertIs(gaming.is_game_paper(table, ahead, (kind, rows, opening)), True)
        # It is lost ahead of the first letter, if the question may end there.
        self.assertEqual(unanswered(nothing(1, 1)), "")
        self.assertIs(is_game_paper(nothing(1, 1), 1, ("lost", (), "")), True)
        self.assertIs(is_game_paper(nothing(1, 1), 0, ("lost", (), "")), False)
        self.assertIs(is_game_paper(nothing(1, 1), 0, ("lost", ((0, "", 0, ""),), "")), True)

    def test_many_positions(self):
        for many, reads, ahead in ((24, 1, 3), (48, 1, 2), (48, 2, 1), (12, 2, 2), (3, 2, 3)):
            table = widths_table([True] * (many - 1) + [False], reads)
            self.assertEqual(len(table), many)
            self.assertIs(can_answer(table, ahead), False)
            paper = game_paper(table, ahead)
            self.assertIs(is_game_paper(table, ahead, paper), True)
            wide = widths_table([True] * many + [False], reads)
            self.assertTooMany(192, can_answer, wide, ahead)
            self.assertTooMany(192, game_paper, wide, ahead)
            for value in (None, ("won", (), ()), paper):
                self.assertTooMany(192, is_game_paper, wide, ahead, value)
        self.assertIs(can_answer(widths_table([True] * 59 + [False]), 1), False)

    def test_many_positions_of_some_number_ahead(self):
        for table in (round_table(60, 59), widths_table([True] * 59 + [False]), widths_table([True] * 24 + [False])):
            self.assertTooMany(192, least_look, table)
        self.assertIsNone(least_look(widths_table([True] * 23 + [False])))
        sixty = widths_table([True] * 59 + [False], 2, 1)
        self.assertTooMany(192, least_look, sixty)
        # A table with 50 states that is answered as it comes, though it has too many positions for 2 letters ahead:
        # smaller numbers are tried first.
        beats = moves_table(1, 1, [True] * 49, [(at, letter, int(at == 7), (at + 1) % 49) for at in range(49)
                                                for letter in (0, 1)])
        self.assertEqual((len(beats), least_look(beats)), (50, 0))
        self.assertTooMany(192, can_answer, beats, 2)


class PapersTest(Checked):

    def test_told_papers_are_right(self):
        kinds = {"won": 0, "lost": 0}
        for table, ahead in games():
            paper = self.answer(game_paper, table, ahead)
            kinds[paper[0]] += 1
            self.assertEqual(paper[0] == "won", can_answer(table, ahead))
            self.assertIs(gaming.is_game_paper(table, ahead, paper), True)
            self.assertIs(self.answer(is_game_paper, table, ahead, paper), True)
        self.assertGreater(min(kinds.values()), 50)

    def test_papers_made_otherwise(self):
        for table, ahead in games():
            paper = other_paper(table, ahead)
            self.assertIs(gaming.is_game_paper(table, ahead, paper), True)
            self.assertIs(is_game_paper(table, ahead, paper), True)

    def test_papers_with_other_rows(self):
        # Each row alone may be left out, if nothing leads to it, and the ranks may be greater.
        for table, ahead in ((L, 0), (L, 1), (GAP, 1), (behind(L, L), 1), (PICKS, 0), (PICKS, 1), (O, 1)):
            kind, rows, rest = game_paper(table, ahead)
            found = {True: 0, False: 0}
            for at in range(len(rows)):
                for row in ((), (rows[at], rows[at]), (rows[at][:2] + ("0" * ahead, "0"),), (rows[at][:2] + (0, ""),),
                            (rows[at][:2] + (7, "1"),), (rows[at][:2] + (0, "0"),)):
                    value = (kind, rows[:at] + row + rows[at + 1:], rest)
                    right = gaming.is_game_paper(table, ahead, value)
                    found[right] += 1
                    self.assertIs(is_game_paper(table, ahead, value), right)
            self.assertGreater(found[False], 0)
        for ranks in product(range(4), repeat=4):
            value = ("lost", tuple([row[:2] + (rank, row[3]) for row, rank in zip(LOST, ranks)]), "")
            self.assertIs(is_game_paper(L, 0, value), ranks[0] > max(ranks[1], ranks[2]) and ranks[1] > ranks[3])

    def test_openings(self):
        for table, ahead in ((GAP, 2), (GAP, 1), (GAP, 3), (~C, 1), (A, 2)):
            kind, rows, _ = other_paper(table, ahead)
            for opening in counting.questions_to(table, 4):
                for kept in (rows, ()):
                    value = (kind, kept, opening)
                    self.assertIs(is_game_paper(table, ahead, value), gaming.is_game_paper(table, ahead, value))

    def test_positions_of_other_widths_and_twice(self):
        row = (0, "", "", "01")
        for rows in ((row, row), (row, row[:2] + ("", "11")), (row, (0, "0", "0", "00")), (row, (0, "0", "0", "01")),
                     (row, (0, "0", "0", "00"), (0, "1", "1", "11")), ((0, "0", "0", "00"), (0, "1", "1", "11"))):
            value = ("won", rows, ())
            self.assertIs(gaming.is_game_paper(C, 0, value), False)
            self.assertIs(is_game_paper(C, 0, value), False)
        first = LOST[0]
        for rows in ((first, first[:2] + (3, "0")), (first[:2] + (1, "0"), first), (first[:2] + (2, ""), first)):
            value = ("lost", rows + LOST[1:], "")
            self.assertIs(gaming.is_game_paper(L, 0, value), False)
            self.assertIs(is_game_paper(L, 0, value), False)
        for waiting in ("0", "1", "00"):
            value = ("lost", LOST + ((3, waiting, 0, ""),), "")
            self.assertIs(is_game_paper(L, 0, value), False)
        shorts = ("",)
        won = game_paper(L, 1)
        self.assertEqual(won[2], shorts)
        self.assertIs(is_game_paper(L, 1, ("won", ((0, "", "", "00"),) + won[1], shorts)), False)

    def test_spoilt_papers(self):
        wrong = 0
        for table, ahead in ((C, 0), (C, 1), (L, 0), (L, 1), (GAP, 1), (GAP, 0), (~C, 0), (PICKS, 0), (A, 1)):
            for paper in (game_paper(table, ahead), other_paper(table, ahead)):
                for value in spoilt(paper):
                    right = gaming.is_game_paper(table, ahead, value)
                    wrong += not right
                    self.assertIs(is_game_paper(table, ahead, value), right, value)
        self.assertGreater(wrong, 2000)

    def test_any_value_can_be_judged(self):
        row, lost = (0, "", "", "01"), LOST[0]
        for part in strangers() + [10 ** 5000, "1" * 5000, "won", "lost"]:
            values = [part, (part,), (part, (), ""), (part, (row,), ()), ("won", part, ()), ("won", (part,), ()),
                      ("won", (row,), part), ("won", (row,), (part,)), ("lost", part, ""), ("lost", LOST, part)]
            values += [("won", (row[:at] + (part,) + row[at + 1:],), ()) for at in range(4)]
            values += [("lost", (lost[:at] + (part,) + lost[at + 1:],) + LOST[1:], "") for at in range(4)]
            for value in values:
                for table, ahead in ((C, 0), (L, 0), (L, 1)):
                    self.assertIs(is_game_paper(table, ahead, value), gaming.is_game_paper(table, ahead, value), value)

    def test_booleans_are_no_integers(self):
        self.assertIs(is_game_paper(C, 0, ("won", ((False, "", "", "01"),), ())), False)
        self.assertIs(is_game_paper(L, 0, ("lost", (LOST[0], (True,) + LOST[1][1:]) + LOST[2:], "")), False)
        self.assertIs(is_game_paper(L, 0, ("lost", (LOST[0], LOST[1][:2] + (True, "1")) + LOST[2:], "")), False)
        self.assertIs(is_game_paper(L, 0, ("lost", LOST[:2] + (LOST[2][:2] + (-1, ""),) + LOST[3:], "")), False)


class WrongTest(Checked):

    def test_wrong_arguments(self):
        tables, numbers = (InvalidTable, wrong_tables()), (InvalidNumber, wrong_numbers(0, 3))
        for function in (can_answer, game_paper):
            self.check_wrong(function, (L, 1), tables, numbers)
        self.check_wrong(lambda table, ahead: is_game_paper(table, ahead, None), (L, 1), tables, numbers)
        self.check_wrong(least_look, (L,), tables)
        wide = round_table(60, 0)
        for ahead in (4, -1, True, None, "1"):
            self.assertRaisesThis(InvalidNumber, ahead, can_answer, wide, ahead)


if __name__ == "__main__":
    unittest.main()
