"""Points 10.1 to 10.6: tables with one answer at most, and how far ahead one must look for its letters."""

import random
from itertools import islice, product

from mayrows.ahead import single as module
from mayrows.ahead.single import (ahead_paper, is_ahead_paper, is_single, is_single_paper, least_ahead, single_paper,
                                  spoken)
from mayrows.count.vectors import least_with
from mayrows.errors import InvalidNumber, InvalidOperation, InvalidTable, InvalidText
from mayrows.least.answers import answer_at
from mayrows.table.calculus import behind, everything, letterwise, nothing, turned
from mayrows.table.tables import Table
from tests import counting, growing, oracles
from tests.checking import Checked, is_same, spoilt, strangers, wrong_numbers, wrong_tables, wrong_texts
from tests.samples import (COPY, FAR, FREE, HALF, LATE, ODD, ONCE, late_table, letters_table, moves_table, ones_table,
                           random_table, rings_table, round_table, widths_table)

C, F, O, L, A = [Table.of(row) for row in (COPY, FREE, ONCE, LATE, FAR)]
CLASH = (0, "00", "00", "01", "10")
# Both rings have two states, and the same ones: after one letter more they have changed their places.
SWAP = moves_table(1, 1, [False, False, False, True],
                   [(0, 0, 0, 1), (0, 0, 1, 2), (1, 0, 0, 2), (2, 0, 0, 1), (1, 1, 0, 3)])

# A short split begins ahead of a long one, from which a letter leads to the short one, too.
FORKS = moves_table(1, 1, [False] * 7 + [True],
                    [(0, 0, 0, 5), (0, 0, 1, 6), (0, 1, 0, 1), (0, 1, 1, 2), (1, 0, 0, 5), (2, 0, 0, 6), (1, 1, 0, 3),
                     (2, 1, 0, 4), (3, 0, 1, 5), (4, 0, 0, 6), (5, 1, 0, 7), (6, 0, 1, 7)])
# It reads two lines and writes one, and rings of the letter 2 are all that there are.
TWOS = moves_table(2, 1, [False] * 3 + [True], [(0, 0, 0, 1), (0, 0, 1, 2), (1, 2, 0, 1), (2, 2, 0, 2), (1, 0, 0, 3),
                                               (2, 1, 0, 3)])
# The first answer letter is the second letter, and all questions have two letters.
SHORT = moves_table(1, 1, [False] * 3 + [True], [(0, 0, 0, 1), (0, 0, 1, 2), (1, 0, 1, 3), (2, 1, 0, 3)])


def few_answers_table(seed):
    """A table that often has one answer at most: each letter has few answer letters, and most states are last ones."""
    chance = random.Random(seed)
    states, reads, writes = chance.randint(2, 6), chance.randint(1, 2), chance.randint(1, 2)
    moves = []
    for state, letter in product(range(states), range(2 ** reads)):
        for answer in chance.sample(range(2 ** writes), chance.choice((0, 1, 1, 1, 2))):
            moves.append((state, letter, answer, chance.randrange(states)))
    return moves_table(reads, writes, [chance.random() < 0.3 for _ in range(states)], moves)


def meeting_table(one, two):
    """A table with an answer for each of the two numbers that divides the width, if this is not 0."""
    moves = [(0, letter, answer, 1 + answer * one) for letter, answer in product((0, 1), repeat=2)]
    moves += [(1 + at, letter, 0, 1 + (at + 1) % one) for at in range(one) for letter in (0, 1)]
    moves += [(1 + one + at, letter, 0, 1 + one + (at + 1) % two) for at in range(two) for letter in (0, 1)]
    return moves_table(1, 1, [at in (one, one + two) for at in range(1 + one + two)], moves)


def known_tables():
    """Single tables, each with the least number of letters that must be seen ahead."""
    yield from [(C, 0), (L, 1), (A, None), (behind(L, L), 2), (Table.of(HALF), 0), (Table.of(ODD), 0), (SWAP, None),
                (FORKS, 3), (TWOS, None), (SHORT, 1)]
    for many in range(1, 8):
        yield late_table(many), many
    for one, two in ((1, 1), (1, 2), (2, 2), (2, 3), (3, 4), (5, 6), (7, 7), (6, 8), (3, 11)):
        yield rings_table(one, two), None
    for reads, writes in product((1, 2), repeat=2):
        yield from [(nothing(reads, writes), 0), (letterwise(reads, writes, ((0, 1), (1, 0))), 0)]


def tables():
    """Tables of all kinds."""
    yield from [C, F, O, L, A, everything(1, 2), ones_table(3), C | L]
    for table, _ in known_tables():
        yield table
    for seed in range(40):
        yield random_table(seed, 1 + seed % 2, 1 + seed // 2 % 2, 2 + seed % 3)
    for seed in range(400):
        yield few_answers_table(seed)


def single_tables():
    """The single ones of these."""
    for table in tables():
        if growing.least_double(table) is None:
            yield table


def some_single_tables(many=60):
    """Some of these: no more than so many for each number of letters."""
    counts = {}
    for table in single_tables():
        ahead = growing.least_ahead(table)
        counts[ahead] = counts.get(ahead, 0) + 1
        if counts[ahead] <= many:
            yield table, ahead


class ExamplesTest(Checked):

    def test_single(self):
        self.assertEqual([is_single(F), [least_ahead(table) for table in (C, L, A)]], [False, [0, 1, None]])

    def test_papers(self):
        self.assertEqual([is_single_paper(C, ("single", ())), is_single_paper(F, ("double", "1", "0", "1")),
                          is_single_paper(L, ("single", ()))], [True, True, False])
        self.assertEqual([is_ahead_paper(L, ("ahead", n, ((1, 2, 1),), CLASH)) for n in (1, 2)], [True, False])
        self.assertIs(is_ahead_paper(A, ("never", ("0", "0", "1"), ("0", "0", "0"), ("", "", "1", "0"))), True)

    def test_spoken(self):
        self.assertEqual([list(spoken(L, 1, "0110")), list(spoken(L, 2, "01"))],
                         [[(2, "1"), (3, "1"), (4, "0"), (4, "0")], [(2, "1"), (2, "0")]])
        self.assertRaisesThis(InvalidOperation, None, lambda: next(spoken(L, 0, "01")))

    def test_constant(self):
        self.assertEqual(module.MAX_USEFUL, 16)


class SingleTest(Checked):

    def test_all_questions_of_small_widths(self):
        for table in tables():
            many = max([len(counting.answers(table, question))
                        for question in counting.questions_to(table, counting.small(table))])
            found = self.answer(is_single, table)
            self.assertIs(found, growing.least_double(table) is None)
            if many > 1:
                self.assertIs(found, False)

    def test_told_papers_are_right(self):
        for table in tables():
            paper = self.answer(single_paper, table)
            self.assertEqual(paper[0], "single" if is_single(table) else "double")
            self.assertIs(growing.is_single_paper(table, paper), True)
            self.assertIs(self.answer(is_single_paper, table, paper), True)

    def test_the_told_question_is_the_least_one(self):
        for table in tables():
            if not is_single(table):
                question = single_paper(table)[1]
                self.assertEqual(question, growing.least_double(table))
                self.assertEqual(question, least_with(table, 2, at_least=True))

    def test_a_least_question_of_many_letters(self):
        # The first answer letter chooses one of two rings, whose last states are met together late.
        for one, two in ((1, 2), (5, 6), (7, 8)):
            table = meeting_table(one, two)
            self.assertEqual(single_paper(table)[1], "0" * (one * two))
            self.assertIs(is_single_paper(table, single_paper(table)), True)
            self.assertIs(growing.is_single_paper(table, single_paper(table)), True)

    def test_any_question_with_two_answers(self):
        for table in (F, O, ones_table(2), everything(1, 2)):
            for question in counting.questions_to(table, 3):
                answers = counting.answers(table, question)
                for one, two in product(oracles.texts(2 ** table.writes, len(question)), repeat=2):
                    right = one in answers and two in answers and one != two
                    self.assertIs(is_single_paper(table, ("double", question, one, two)), right)
        self.assertIs(is_single_paper(F, ("double", "1" * 200, "0" * 200, "1" * 200)), True)
        self.assertIs(is_single_paper(F, ("double", "1" * 201, "0" * 201, "1" * 201)), False)

    def test_any_closed_splits(self):
        # All splits but those that have two last states, or lead to such ones.
        for table, _ in some_single_tables(6):
            kept = oracles.useful(table)
            if len(kept) > 8:
                continue
            splits = {(one, two) for one in kept for two in kept
                      if one <= two and not (table.rows[one][0] and table.rows[two][0])}
            while True:
                good = {split for split in splits if growing.splits_after(table, split) <= splits}
                if good == splits:
                    break
                splits = good
            value = ("single", tuple(sorted(splits)))
            self.assertIs(growing.is_single_paper(table, value), True)
            self.assertIs(is_single_paper(table, value), True)
            for at in range(len(value[1])):
                fewer = ("single", value[1][:at] + value[1][at + 1:])
                self.assertIs(is_single_paper(table, fewer), growing.is_single_paper(table, fewer))

    def test_no_split_with_two_last_states(self):
        for table in tables():
            splits = tuple(sorted(growing.open_splits(table)))
            self.assertIs(is_single_paper(table, ("single", splits)), is_single(table))

    def test_splits_in_their_order(self):
        self.assertIs(is_single_paper(L, ("single", ((1, 2),))), True)
        for value in (((1, 2), (2, 1)), ((2, 1),), ((1, 1), (1, 2)), ((1, 2), (1, 2)), ((1, 2), (2, 2))):
            self.assertIs(is_single_paper(L, ("single", value)), False)

    def test_sixteen_useful_states_and_one_more(self):
        for many in (16, 17):
            made = [widths_table([at == many - 1 for at in range(many + 1)]), round_table(many, 3),
                    letters_table([at % 3 == 0 or at == many - 1 for at in range(many)],
                                  [((at + 1) % many, 0) for at in range(many)]), ones_table(many - 1),
                    rings_table(7, many - 9)]
            for table in made:
                self.assertEqual(len(oracles.useful(table)), many)
                if many == 16:
                    self.assertIs(is_single_paper(table, single_paper(table)), True)
                    if is_single(table):
                        self.assertIs(is_ahead_paper(table, ahead_paper(table)), True)
                        self.assertEqual(least_ahead(table), growing.least_ahead(table))
                    else:
                        self.assertRaisesThis(InvalidOperation, None, least_ahead, table)
                    continue
                for function in (is_single, single_paper, least_ahead, ahead_paper):
                    self.assertTooMany(16, function, table)
                for value in (None, ("single", ()), ("ahead", 0, (), None)):
                    self.assertTooMany(16, is_single_paper, table, value)
                    self.assertTooMany(16, is_ahead_paper, table, value)
                self.assertTooMany(16, lambda: next(spoken(table, 3, "0")))

    def test_tables_without_pairs(self):
        for reads, writes in product((1, 2), repeat=2):
            table = nothing(reads, writes)
            self.assertEqual((is_single(table), single_paper(table), least_ahead(table), ahead_paper(table)),
                             (True, ("single", ()), 0, ("ahead", 0, (), None)))
            self.assertEqual(list(spoken(table, 0, "")), [])
            self.assertRaisesThis(InvalidOperation, None, lambda: next(spoken(table, 0, "0")))
            self.assertIs(is_single_paper(table, ("single", ((0, 0),))), False)


class AheadTest(Checked):

    def test_known_tables(self):
        for table, expected in known_tables():
            self.assertEqual(self.answer(least_ahead, table), expected)
            self.assertEqual(growing.least_ahead(table), expected)

    def test_all_single_tables(self):
        found = set()
        for table in single_tables():
            ahead = self.answer(least_ahead, table)
            self.assertEqual(ahead, growing.least_ahead(table))
            found.add(ahead)
        self.assertTrue(found >= {None, 0, 1, 2, 3})

    def test_all_pairs_of_small_widths(self):
        for table, ahead in some_single_tables():
            if table.reads + table.writes > 2:
                continue
            for many in range(4):
                looks = growing.looks_ahead(table, many, 6)
                if ahead is not None and many >= ahead:
                    self.assertIs(looks, True)
                elif many < 3 and len(table) < 8 and (ahead is None or ahead < 4):
                    self.assertIs(looks, False)

    def test_told_papers_are_right(self):
        kinds = {"ahead": 0, "never": 0}
        for table in single_tables():
            paper = self.answer(ahead_paper, table)
            kinds[paper[0]] += 1
            self.assertEqual(paper[0], "never" if least_ahead(table) is None else "ahead")
            self.assertIs(growing.is_ahead_paper(table, paper), True)
            self.assertIs(self.answer(is_ahead_paper, table, paper), True)
        self.assertGreater(min(kinds.values()), 10)

    def test_a_ring_where_the_states_change_places(self):
        kind, start, ring, ends = ahead_paper(SWAP)
        self.assertEqual((kind, len(ring[0])), ("never", 2))
        self.assertIs(is_ahead_paper(SWAP, (kind, start, ring, ends)), True)
        self.assertIs(is_ahead_paper(SWAP, (kind, start, ("0", "0", "0"), ends)), False)

    def test_papers_made_otherwise(self):
        # Rows for splits that are not open, greater ranks, and other clashes.
        self.assertIs(is_ahead_paper(C, ("ahead", 0, (), None)), True)
        for clash in (CLASH, (0, "01", "10", "00", "00"), (1, "000", "000", "001", "010"), (0, "0", "0", "01", "10"),
                      (0, "0" * 200, "0" * 200, "0" + "1" * 199, "1" * 199 + "0"), (2, "1100", "1000", "1101", "1010")):
            value = ("ahead", 1, ((1, 2, 1),), clash)
            self.assertIs(growing.is_ahead_paper(L, value), True)
            self.assertIs(is_ahead_paper(L, value), True)
        for clash in (None, (0, "00", "00", "11", "10"), (0, "00", "00", "00", "00"), (1, "00", "00", "01", "10"),
                      (0, "00", "00", "01", "11"), (2, "00", "00", "01", "10"), (0, "", "", "", ""),
                      (0, "00", "00", "01"), (-1, "00", "00", "01", "10"), (False, "00", "00", "01", "10"),
                      (0, "0" * 201, "0" * 201, "01", "10"), (10 ** 60, "00", "00", "01", "10")):
            value = ("ahead", 1, ((1, 2, 1),), clash)
            self.assertIs(growing.is_ahead_paper(L, value), False)
            self.assertIs(is_ahead_paper(L, value), False)
        for clash in (None, (1, "00", "00", "01", "01"), (0, "0", "0", "1", "1")):
            self.assertIs(is_ahead_paper(C, ("ahead", -1, (), clash)), False)
        table = late_table(2)
        _, _, rows, clash = ahead_paper(table)
        self.assertEqual([row[2] for row in rows], [2, 1])
        more = tuple(sorted([row[:2] for row in rows] + [(0, 0)]))
        # A split of one state twice, which no rank can be given, since it leads to itself behind the end.
        self.assertIs(is_ahead_paper(table, ("ahead", 2, tuple([pair + (1,) for pair in more]), clash)), False)

    def test_rows_for_all_splits(self):
        # From two equal states nothing is led on without end, since the questions of SHORT have two letters.
        for table in (SHORT, FORKS):
            kind, ahead, rows, clash = ahead_paper(table)
            kept = oracles.useful(table)
            right = 0
            for split in [(one, two) for one in kept for two in kept]:
                for rank in range(ahead + 2):
                    more = {row[:2]: row[2] for row in rows}
                    more[split] = rank
                    value = (kind, ahead, tuple([pair + (more[pair],) for pair in sorted(more)]), clash)
                    expected = growing.is_ahead_paper(table, value)
                    right += expected
                    self.assertIs(is_ahead_paper(table, value), expected)
            self.assertGreater(right, ahead)
        self.assertIs(is_ahead_paper(SHORT, ("ahead", 1, ((1, 2, 1), (4, 4, 1)), (0, "00", "01", "01", "10"))), True)

    def test_the_index_of_a_clash(self):
        self.assertEqual(SHORT.rows[0][0], False)
        for clash, right in (((0, "00", "01", "01", "10"), True), ((-1, "00", "01", "01", "10"), False),
                             ((1, "00", "01", "01", "10"), False), ((-2, "00", "01", "01", "10"), False)):
            self.assertIs(is_ahead_paper(SHORT, ("ahead", 1, ((1, 2, 1),), clash)), right)

    def test_rows_with_other_ranks(self):
        for table, ahead in (late_table(2), 2), (late_table(3), 3), (behind(L, L), 2):
            _, _, rows, clash = ahead_paper(table)
            found = {True: 0, False: 0}
            for ranks in product(range(ahead + 2), repeat=len(rows)) if len(rows) < 6 else ():
                value = ("ahead", ahead, tuple([row[:2] + (rank,) for row, rank in zip(rows, ranks)]), clash)
                right = growing.is_ahead_paper(table, value)
                found[right] += 1
                self.assertIs(is_ahead_paper(table, value), right)
            if len(rows) < 6:
                self.assertGreater(min(found.values()), 0)

    def test_any_rings(self):
        base = ("never", ("0", "0", "1"), ("0", "0", "0"), ("", "", "1", "0"))
        for at, values in ((1, [("0", "1", "0"), ("1", "0", "1"), ("01", "00", "10"), ("00", "00", "10"), ("", "", "")]),
                           (2, [("00", "00", "00"), ("0" * 200, "0" * 200, "0" * 200), ("0" * 201,) * 3, ("", "", ""),
                                ("1", "0", "0"), ("0", "0", "1")]),
                           (3, [("0", "0", "1", "0"), ("1", "0", "", ""), ("00", "00", "11", "00"), ("", "", "", "")])):
            for value in values:
                paper = base[:at] + (value,) + base[at + 1:]
                self.assertIs(is_ahead_paper(A, paper), growing.is_ahead_paper(A, paper), paper)
        self.assertIs(is_ahead_paper(A, ("never", ("1", "1", "0"), ("0", "0", "0"), ("", "", "", ""))), False)
        self.assertIs(is_ahead_paper(A, base[:3] + (("1", "0", "", ""),)), False)
        # The answers of the begin differ.
        for table in (A, C, L):
            for start in (("", "", ""), ("0", "0", "0"), ("1", "1", "1")):
                self.assertIs(is_ahead_paper(table, ("never", start, ("0", "0", "0"), ("", "", "", ""))), False)
        self.assertIs(is_ahead_paper(A, base[:2] + (("0" * 200,) * 3,) + base[3:]), True)

    def test_behind_one_another(self):
        known = [(table, ahead) for table, ahead in known_tables() if (table.reads, table.writes) == (1, 1)
                 and ahead is not None and ahead < 4 and len(table) < 9]
        for (one, ahead), (other, other_ahead) in product(known, repeat=2):
            table = behind(one, other)
            if len(oracles.useful(table)) <= 16:
                self.assertIs(is_single(table), True)
                self.assertLessEqual(least_ahead(table), ahead + other_ahead)
        self.assertEqual(least_ahead(behind(L, L)), 2)
        # [0.18] Behind one another they need more letters than each one alone.
        self.assertGreater(least_ahead(behind(L, L)), least_ahead(L))

    def test_not_single(self):
        for table in (F, O, everything(2, 2), C | L):
            for function in (least_ahead, ahead_paper):
                self.assertRaisesThis(InvalidOperation, None, function, table)
            for value in (None, ("ahead", 0, (), None)):
                self.assertRaisesThis(InvalidOperation, None, is_ahead_paper, table, value)
            self.assertRaisesThis(InvalidOperation, None, lambda: next(spoken(table, 3, "")))


class JudgedTest(Checked):

    def test_spoilt_papers(self):
        wrong = 0
        for table in (C, F, L, A, late_table(2), SWAP, nothing(1, 1), behind(L, L)):
            for value in spoilt(single_paper(table)):
                right = growing.is_single_paper(table, value)
                wrong += not right
                self.assertIs(is_single_paper(table, value), right, value)
            if table == F:
                continue
            for value in spoilt(ahead_paper(table)):
                right = growing.is_ahead_paper(table, value)
                wrong += not right
                self.assertIs(is_ahead_paper(table, value), right, value)
        self.assertGreater(wrong, 2000)

    def test_any_value_can_be_judged(self):
        for part in strangers() + [10 ** 5000, "1" * 5000, "single", "ahead", "never"]:
            for value in (part, (part,), ("single", part), ("single", (part,)), ("single", ((1, part),)), (part, ()),
                          ("single", ((1, 2), part)), ("double", part, "0", "1"), ("double", "1", part, "1"),
                          ("double", "1", "0", part), (part, "1", "0", "1"), ("ahead", part, ((1, 2, 1),), CLASH),
                          ("ahead", 1, part, CLASH), ("ahead", 1, (part,), CLASH), ("ahead", 1, ((1, 2, part),), CLASH),
                          ("ahead", 1, ((part, 2, 1),), CLASH), ("ahead", 1, ((1, 2, 1),), part), ("ahead", 0, (), part),
                          ("ahead", 1, ((1, 2, 1),), (part,) + CLASH[1:]),
                          ("ahead", 1, ((1, 2, 1),), CLASH[:1] + (part,) + CLASH[2:]),
                          ("ahead", 1, ((1, 2, 1),), CLASH[:4] + (part,)),
                          ("never", part, ("0", "0", "0"), ("", "", "1", "0")),
                          ("never", ("0", "0", "1"), part, ("", "", "1", "0")),
                          ("never", ("0", "0", "1"), ("0", "0", "0"), part),
                          ("never", ("0", part, "1"), ("0", "0", part), (part, "", "1", "0")),
                          (part, ("0", "0", "1"), ("0", "0", "0"), ("", "", "1", "0"))):
                for table in (C, L, A):
                    self.assertIs(is_single_paper(table, value), growing.is_single_paper(table, value), value)
                    self.assertIs(is_ahead_paper(table, value), growing.is_ahead_paper(table, value), value)
                self.assertIs(is_single_paper(F, value), growing.is_single_paper(F, value), value)

    def test_booleans_are_no_integers(self):
        self.assertIs(is_single_paper(L, ("single", ((1, 2),))), True)
        self.assertIs(is_single_paper(L, ("single", ((True, 2),))), False)
        for value in (("ahead", True, ((1, 2, 1),), CLASH), ("ahead", 1, ((True, 2, 1),), CLASH),
                      ("ahead", 1, ((1, 2, True),), CLASH), ("ahead", 1, ((1, 2, 1),), (False,) + CLASH[1:])):
            self.assertIs(is_ahead_paper(L, value), False)
        self.assertIs(is_ahead_paper(C, ("ahead", False, (), None)), False)

    def test_splits_of_states_without_use(self):
        dead = [state for state in range(len(L)) if state not in oracles.useful(L)][0]
        self.assertIs(is_single_paper(L, ("single", ((1, 2), (dead, dead)))), False)
        self.assertIs(is_single_paper(L, ("single", ((1, 2), (1, dead)))), False)
        self.assertIs(is_single_paper(L, ("single", ((2, 1),))), False)


class SpokenTest(Checked):

    def letters_known(self, table, ahead, question):
        """What is spoken, and whether an error comes behind it, by all ways to answer."""
        kept = oracles.useful(table)
        found = []
        for index in range(len(question)):
            seen = min(index + ahead + 1, len(question))
            whole = index + ahead + 1 > len(question)
            letters = {answer[index] for answer in oracles.texts(2 ** table.writes, seen)
                       if (oracles.has_pair(table, question, answer) if whole
                           else oracles.end_state(table, question[:seen], answer) in kept)}
            if not letters:
                return found, True
            self.assertEqual(len(letters), 1)
            found.append((seen, letters.pop()))
        return found, False

    def test_all_questions_of_small_widths(self):
        errors = 0
        for table, least in some_single_tables(20):
            if least is None or least > 3:
                continue
            for ahead in range(least, 4):
                for question in counting.questions_to(table, counting.small(table)):
                    expected, fails = self.letters_known(table, ahead, question)
                    self.assertEqual(list(islice(spoken(table, ahead, question), len(expected))), expected)
                    if fails:
                        errors += 1
                        rest = spoken(table, ahead, question)
                        self.assertEqual(list(islice(rest, len(expected))), expected)
                        self.assertRaisesThis(InvalidOperation, None, lambda: next(rest))
                    else:
                        self.assertEqual(list(spoken(table, ahead, question)), expected)
                        answer = answer_at(table, question, 0)
                        if question and answer is not None:
                            self.assertEqual("".join([letter for _, letter in expected]), answer)
        self.assertGreater(errors, 500)

    def test_wide_questions(self):
        question = "0110" * 50
        self.assertEqual(list(spoken(L, 1, question)),
                         [(min(at + 2, 200), letter) for at, letter in enumerate(question[1:] + "0")])
        self.assertEqual("".join([letter for _, letter in spoken(L, 3, question)]), question[1:] + "0")
        self.assertEqual([pair for pair in spoken(C, 0, question)], [(at + 1, mark) for at, mark in enumerate(question)])

    def test_questions_shorter_than_ahead(self):
        self.assertEqual(list(spoken(L, 3, "1")), [(1, "0")])
        self.assertEqual(list(spoken(L, 3, "01")), [(2, "1"), (2, "0")])
        self.assertEqual(list(spoken(L, 3, "011")), [(3, "1"), (3, "1"), (3, "0")])
        self.assertEqual(list(spoken(C, 3, "10")), [(2, "1"), (2, "0")])

    def test_the_empty_question(self):
        for table in (C, L, Table.of(ODD), nothing(1, 1)):
            self.assertEqual(list(spoken(table, 1, "")), [])

    def test_pairs_ahead_of_an_error(self):
        # It answers noughts only. A one further on is seen as soon as the letters are shown.
        half = Table.of(HALF)
        for ahead in range(4):
            letters = spoken(half, ahead, "000100")
            self.assertEqual([next(letters) for _ in range(3 - ahead)], [(at + ahead + 1, "0") for at in range(3 - ahead)])
            self.assertRaisesThis(InvalidOperation, None, lambda: next(letters))
        # Questions of an even width have no answer, but those that begin so may have one.
        odd = Table.of(ODD)
        letters = spoken(odd, 0, "01")
        self.assertEqual(list(letters), [(1, "0"), (2, "0")])
        letters = spoken(odd, 1, "01")
        self.assertEqual(next(letters), (2, "0"))
        self.assertRaisesThis(InvalidOperation, None, lambda: next(letters))
        self.assertEqual(list(spoken(odd, 1, "011")), [(2, "0"), (3, "0"), (3, "0")])
        letters = spoken(odd, 3, "0110")
        self.assertEqual(next(letters), (4, "0"))
        self.assertRaisesThis(InvalidOperation, None, lambda: next(letters))

    def test_letters_ahead_0_3_and_4(self):
        table = late_table(3)
        self.assertEqual([letter for _, letter in spoken(table, 3, "00010")], ["1", "0", "0", "0", "0"])
        for ahead in (0, 1, 2):
            self.assertRaisesThis(InvalidOperation, None, lambda: next(spoken(table, ahead, "00010")))
        self.assertRaisesThis(InvalidOperation, None, lambda: next(spoken(late_table(4), 3, "")))
        self.assertRaisesThis(InvalidOperation, None, lambda: next(spoken(A, 3, "")))
        for ahead in (4, -1, True, None, "1"):
            self.assertRaisesThis(InvalidNumber, ahead, lambda: next(spoken(L, ahead, "0")))

    def test_raises_when_it_is_asked(self):
        for error, table, ahead, question in ((InvalidTable, None, 4, "2"), (InvalidNumber, F, 4, "2"),
                                              (InvalidText, F, 0, "2"), (InvalidOperation, F, 0, "1"),
                                              (InvalidOperation, L, 0, "")):
            letters = spoken(table, ahead, question)
            self.assertRaisesThis(error, ahead, lambda: next(letters))

    def test_wrong_arguments(self):
        for table in (L, letterwise(2, 1, ((3, 1), (0, 0)))):
            self.check_wrong(lambda *values: list(spoken(*values)), (table, 2, "00"), (InvalidTable, wrong_tables()),
                             (InvalidNumber, wrong_numbers(0, 3)), (InvalidText, wrong_texts(2 ** table.reads)))

    def test_plain_values(self):
        found = list(spoken(letterwise(1, 2, ((0, 3), (1, 0))), 0, "01"))
        self.assertTrue(is_same(found, [(1, "3"), (2, "0")]))


class ErrorsTest(Checked):

    def test_wrong_arguments(self):
        wrong = (InvalidTable, wrong_tables())
        for function in (is_single, single_paper, least_ahead, ahead_paper):
            self.check_wrong(function, (L,), wrong)
        for function in (is_single_paper, is_ahead_paper):
            self.check_wrong(lambda table: function(table, None), (L,), wrong)
            for value in strangers():
                self.assertRaisesThis(InvalidTable, None, function, None, value)

    def test_too_many_states_count_ahead_of_two_answers(self):
        self.assertTooMany(16, least_ahead, ones_table(16))
        self.assertTooMany(16, ahead_paper, ones_table(16))
        self.assertRaisesThis(InvalidOperation, None, least_ahead, ones_table(15))

    def test_statements_that_are_not_true(self):
        # [0.18] With a single table the turned one need not be single.
        zeros = letterwise(1, 1, ((0, 0), (1, 0)))
        self.assertEqual([is_single(zeros), is_single(turned(zeros))], [True, False])
