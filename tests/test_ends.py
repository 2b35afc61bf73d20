"""Points 5.1 to 5.5: useful states, sets, which questions have an answer, and end papers."""

from itertools import product

from mayrows.errors import InvalidOperation, InvalidTable, InvalidText
from mayrows.row.rows import Mayrow
from mayrows.table import ends
from mayrows.table.calculus import everything, letterwise, nothing
from mayrows.table.ends import (end_paper, following_set, has_answer, is_end_paper, least_pair, set_behind, unanswered,
                                useful_states)
from mayrows.table.tables import Table
from tests import oracles
from tests.checking import Checked, spoilt, strangers, wrong_tables, wrong_texts
from tests.samples import (COPY, FREE, HALF, LATE, ODD, ONCE, branched_table, random_table, round_table,
                           widths_table)


def tables(many=60, states=4):
    """Tables of all numbers of lines, also such without pairs and with all."""
    for seed in range(many):
        yield random_table(seed, 1 + seed % 2, 1 + seed // 2 % 2, 1 + seed % states)
        yield random_table(seed, 1 + seed % 2, 1 + seed // 2 % 2, 1 + seed % states) & random_table(
            700 + seed, 1 + seed % 2, 1 + seed // 2 % 2, 2)
    for reads, writes in product((1, 2), repeat=2):
        yield from [nothing(reads, writes), everything(reads, writes), letterwise(reads, writes, ((1, 0),))]


def questions_to(table, most):
    """All questions of at most this width, in their order."""
    return [question for width in range(most + 1) for question in oracles.texts(2 ** table.reads, width)]


def is_answered(table, question):
    """Whether some answer text makes a pair of the table with the question."""
    return any([oracles.has_pair(table, question, answer)
                for answer in oracles.texts(2 ** table.writes, len(question))])


def met_sets(table):
    """The met sets in their order [5.3], and whether each of them ends."""
    kept = oracles.useful(table)
    met = [(0,) if 0 in kept else ()]
    for states in met:
        for letter in range(2 ** table.reads):
            following = oracles.sets_behind(table, states, letter)
            if following not in met:
                met.append(following)
    return met, [any([table.rows[state][0] for state in states]) for states in met]


class ExamplesTest(Checked):

    def test_useful_states(self):
        self.assertEqual([useful_states(Table.of(row)) for row in (COPY, ONCE, LATE, ODD)],
                         [(0,), (0, 2), (0, 1, 2), (0, 1)])

    def test_pairs_and_sets(self):
        self.assertEqual([least_pair(Table.of(COPY)), least_pair(Table.of(ODD)), least_pair(nothing(1, 1)),
                          set_behind(Table.of(ONCE), "01"), following_set(Table.of(LATE), (1, 2), "0")],
                         [("", ""), ("0", "0"), None, (0, 2), (1, 2)])

    def test_unanswered(self):
        self.assertEqual(([unanswered(Table.of(row)) for row in (COPY, LATE, HALF, ODD)],
                          has_answer(Table.of(HALF), "00")), ([None, None, "1", ""], True))

    def test_papers(self):
        self.assertEqual([end_paper(Table.of(LATE))[0], end_paper(Table.of(HALF))[0],
                          is_end_paper(Table.of(LATE), ("answered", ((0,), (1, 2))))], ["answered", "question", True])
        self.assertEqual([is_end_paper(Table.of(HALF), ("question", text)) for text in ("0", "010")], [False, True])
        self.assertEqual([is_end_paper(Table.of(ONCE), ("answered", family))
                          for family in (((0,), (0, 2)), ((0,),), ((0,), (0, 2), (2,)))], [True, False, True])


class StatesTest(Checked):

    def test_useful_states(self):
        for table in tables():
            found = self.answer(useful_states, table)
            self.assertEqual(found, oracles.useful(table))
            self.assertLessEqual(len(table) - len(found), 1)
        self.assertEqual(useful_states(nothing(2, 1)), ())
        self.assertEqual(useful_states(widths_table([k == 58 for k in range(60)])), tuple(range(59)))

    def test_each_answer_has_one_walk_through_useful_states(self):
        for table in tables(16, 3):
            kept = oracles.useful(table)
            for question in questions_to(table, 2):
                walks = [("", 0)] if 0 in kept else []
                for mark in question:
                    walks = [(text + str(answer), table.rows[state][1][int(mark) * 2 ** table.writes + answer])
                             for text, state in walks for answer in range(2 ** table.writes)]
                    walks = [(text, state) for text, state in walks if state in kept]
                found = [text for text, state in walks if table.rows[state][0]]
                self.assertEqual(found, [answer for answer in oracles.texts(2 ** table.writes, len(question))
                                         if oracles.has_pair(table, question, answer)])

    def test_least_pair(self):
        for table in tables():
            most = 3 if table.reads + table.writes == 2 else 2
            pairs = oracles.pairs_to(table, most)
            found = self.answer(least_pair, table)
            if pairs:
                self.assertEqual(found, pairs[0])
            elif len(table) < most:
                self.assertIsNone(found)
            self.assertIs(found is None, not table)
            self.assertIs(found is None or found in table, True)

    def test_least_pairs_are_ordered_by_the_question_first(self):
        rows = [(False, (1, 3, 4, 4)), (False, (4, 4, 2, 4)), (True, (4, 4, 4, 4)), (False, (2, 4, 4, 4)),
                (False, (4, 4, 4, 4))]
        self.assertEqual(list(Table.told(1, 1, tuple(rows)).pairs(2)), [("00", "10"), ("01", "00")])
        self.assertEqual(least_pair(Table.told(1, 1, tuple(rows))), ("00", "10"))

    def test_the_widest_least_pair(self):
        self.assertEqual(least_pair(widths_table([k == 59 for k in range(60)])), ("0" * 59, "0" * 59))
        self.assertEqual(least_pair(round_table(60, 59, 2, 2)), ("0" * 59, "0" * 59))
        last = Table.told(1, 1, ((False, (1, 1, 1, 0)), (True, (0, 0, 0, 0))))
        self.assertEqual(least_pair(last), ("0", "0"))


class SetsTest(Checked):

    def test_set_behind_and_has_answer(self):
        for table in tables(40):
            kept = oracles.useful(table)
            for question in questions_to(table, 3 if table.reads + table.writes == 2 else 2):
                states = {oracles.end_state(table, question, answer)
                          for answer in oracles.texts(2 ** table.writes, len(question))}
                found = self.answer(set_behind, table, question)
                self.assertEqual(found, tuple(sorted(states & set(kept))))
                self.assertIs(self.answer(has_answer, table, question), is_answered(table, question))
                if question:
                    self.assertEqual(following_set(table, set_behind(table, question[:-1]), question[-1]), found)

    def test_the_first_set(self):
        for table in tables(20):
            self.assertEqual(set_behind(table, ""), (0,) if table else ())
            self.assertIs(has_answer(table, ""), table.rows[0][0])

    def test_wide_questions(self):
        table = Table.of(ONCE)
        self.assertEqual(set_behind(table, "1" * 200), (0, 2))
        self.assertIs(has_answer(table, "01" * 100), True)
        self.assertIs(has_answer(Table.of(ODD), "0" * 200), False)
        self.assertIs(has_answer(Table.of(ODD), "0" * 199), True)
        self.assertEqual(set_behind(Table.of(HALF), "0" * 199 + "1"), ())

    def test_following_set(self):
        for table in tables(40, 3):
            kept = oracles.useful(table)
            for chosen in product((False, True), repeat=len(kept)):
                states = tuple([state for state, taken in zip(kept, chosen) if taken])
                for letter in range(2 ** table.reads):
                    self.assertEqual(self.answer(following_set, table, states, str(letter)),
                                     oracles.sets_behind(table, states, letter))

    def test_the_empty_set(self):
        self.assertEqual(following_set(Table.of(LATE), (), "1"), ())
        self.assertEqual(following_set(nothing(1, 1), (), "0"), ())
        self.assertEqual(following_set(Table.of(HALF), (0,), "1"), ())

    def test_lesser_sets_are_followed_by_lesser_sets(self):
        for table in tables(20, 5):
            kept = oracles.useful(table)
            for letter in range(2 ** table.reads):
                whole = set(following_set(table, kept, str(letter)))
                for at in range(len(kept)):
                    part = following_set(table, kept[:at] + kept[at + 1:], str(letter))
                    self.assertLessEqual(set(part), whole)


class UnansweredTest(Checked):

    def test_the_least_question_without_an_answer(self):
        for table in tables():
            most = 4 if table.reads == 1 and table.writes == 1 else 2
            without = [question for question in questions_to(table, most) if not is_answered(table, question)]
            found = self.answer(unanswered, table)
            met, good = met_sets(table)
            self.assertIs(found is None, all(good))
            if without:
                self.assertEqual(found, without[0])
            if found is not None:
                self.assertEqual(set_behind(table, found), met[good.index(False)])

    def test_two_thousand_sets_and_one_more(self):
        self.assertEqual(ends.MAX_SETS, 2000)
        few, many = branched_table(11, (9, 13, 17)), branched_table(12, (9, 13, 17))
        self.assertIsNone(self.answer(unanswered, few))
        kind, family = self.answer(end_paper, few)
        self.assertEqual((kind, len(family)), ("answered", 2000))
        self.assertIs(is_end_paper(few, (kind, family)), True)
        self.assertTooMany(2000, unanswered, many)
        self.assertTooMany(2000, end_paper, many)

    def test_a_state_without_use_does_not_count(self):
        table = branched_table(11, (9, 13, 17), escape=True)
        self.assertIsNone(unanswered(table))
        self.assertEqual(len(end_paper(table)[1]), 2000)

    def test_an_early_set_that_does_not_end_counts_ahead_of_too_many(self):
        # The rounds meet in their holes after 12 + 150 letters; more than 2000 sets would be met later.
        holes = (150 % 9, 150 % 13, 150 % 17)
        table = branched_table(12, (9, 13, 17), holes)
        self.assertEqual(self.answer(unanswered, table), "0" * 162)
        self.assertEqual(end_paper(table), ("question", "0" * 162))

    def test_the_last_set_that_may_be_met_and_the_next_one(self):
        # The set of the width 1999 is the last one of 2000, and it does not end; the next one is one too many.
        for tail, width, most in ((11, 1999, 200), (12, 1999, 200), (12, 2000, 2000), (13, 2000, 2000)):
            place = width - tail
            table = branched_table(tail, (9, 13, 17), (place % 9, place % 13, place % 17))
            self.assertTooMany(most, unanswered, table)
            self.assertTooMany(most, end_paper, table)

    def test_questions_of_more_than_200_letters(self):
        for width in (199, 200, 201, 300):
            place = width - 5
            table = branched_table(5, (9, 13, 17), (place % 9, place % 13, place % 17))
            if width <= 200:
                self.assertEqual(unanswered(table), "0" * width)
                self.assertEqual(end_paper(table), ("question", "0" * width))
            else:
                self.assertTooMany(200, unanswered, table)
                self.assertTooMany(200, end_paper, table)

    def test_the_empty_question(self):
        for table in (nothing(1, 1), nothing(2, 2), Table.of(ODD), round_table(60, 1)):
            self.assertEqual(unanswered(table), "")
            self.assertEqual(end_paper(table), ("question", ""))


class PapersTest(Checked):

    def test_told_papers_are_right(self):
        for table in tables():
            paper = self.answer(end_paper, table)
            self.assertEqual(paper[0] == "answered", unanswered(table) is None)
            self.assertIs(oracles.is_end_paper(table, paper), True)
            self.assertIs(self.answer(is_end_paper, table, paper), True)

    def test_any_question_without_an_answer_is_a_paper(self):
        for table in tables(30):
            for question in questions_to(table, 2):
                self.assertIs(is_end_paper(table, ("question", question)), not is_answered(table, question))
        self.assertIs(is_end_paper(Table.of(HALF), ("question", "0" * 199 + "1")), True)
        self.assertIs(is_end_paper(Table.of(HALF), ("question", "0" * 200 + "1")), False)

    def test_any_closed_family_is_a_paper(self):
        for table in tables(30, 3):
            kept = oracles.useful(table)
            family = {tuple([state for state, taken in zip(kept, chosen) if taken])
                      for chosen in product((False, True), repeat=len(kept))}
            while True:
                good = {states for states in family if any([table.rows[state][0] for state in states])
                        and all([oracles.sets_behind(table, states, letter) in family
                                 for letter in range(2 ** table.reads)])}
                if good == family:
                    break
                family = good
            value = ("answered", tuple(sorted(family)))
            self.assertIs(is_end_paper(table, value), unanswered(table) is None)
            self.assertIs(oracles.is_end_paper(table, value), unanswered(table) is None)

    def test_each_set_of_a_family_ends(self):
        wrong = 0
        for table in tables():
            met, good = met_sets(table)
            value = ("answered", tuple(sorted(met)))
            self.assertIs(is_end_paper(table, value), all(good))
            wrong += not all(good)
        self.assertGreater(wrong, 30)
        self.assertIs(is_end_paper(Table.of(HALF), ("answered", ((), (0,)))), False)
        # The empty set is closed by itself, but it does not end.
        self.assertIs(is_end_paper(Table.of(COPY), ("answered", ((), (0,)))), False)

    def test_families_of_2000_sets_and_one_more(self):
        # State 0 leads to sixteen states, each of which leads to itself alone; so each set of these follows itself.
        loops = [(True, tuple([at if answer == 0 or answer == 1 and (at - 1) >> letter & 1 else 17
                               for letter in range(4) for answer in range(4)])) for at in range(1, 17)]
        table = Table.told(2, 2, ((True, tuple(range(1, 17))), *loops, (False, (17,) * 16)))
        self.assertEqual(useful_states(table), tuple(range(17)))
        met = [(0,), (1, 2, 3, 4), (5, 6, 7, 8), (9, 10, 11, 12), (13, 14, 15, 16)]
        self.assertEqual(end_paper(table), ("answered", tuple(sorted(met))))
        others = [tuple([at + 1 for at in range(16) if mask >> at & 1]) for mask in range(1, 3000)]
        others = [states for states in others if states not in met]
        for many in (5, 6, 1999, 2000, 2001, 2002):
            family = tuple(sorted(met + others[:many - 5]))
            self.assertEqual(len(family), many)
            self.assertIs(is_end_paper(table, ("answered", family)), many <= 2000)

    def test_spoilt_papers(self):
        wrong = 0
        for table in tables(4):
            for value in spoilt(end_paper(table)):
                right = oracles.is_end_paper(table, value)
                wrong += not right
                self.assertIs(is_end_paper(table, value), right, value)
        self.assertGreater(wrong, 1000)

    def test_any_value_can_be_judged(self):
        for part in strangers() + [10 ** 5000, "1" * 5000]:
            for value in (part, (part,), ("answered", part), ("answered", (part,)), ("answered", ((0,), part)),
                          ("answered", ((part,),)), ("answered", ((0, part),)), ("question", part), (part, "1"),
                          (part, ((0,),)), ("answered", ((0,),), part), ("question", "1", part)):
                for row in (COPY, HALF, ONCE):
                    self.assertIs(is_end_paper(Table.of(row), value), oracles.is_end_paper(Table.of(row), value))

    def test_booleans_are_no_states(self):
        self.assertIs(is_end_paper(Table.of(COPY), ("answered", ((0,),))), True)
        self.assertIs(is_end_paper(Table.of(COPY), ("answered", ((False,),))), False)

    def test_states_without_use_are_in_no_set(self):
        self.assertEqual(useful_states(Table.of(COPY)), (0,))
        self.assertIs(is_end_paper(Table.of(COPY), ("answered", ((0,), (0, 1)))), False)
        self.assertIs(is_end_paper(Table.of(COPY), ("answered", ((0, 1),))), False)


class ErrorsTest(Checked):

    def test_wrong_arguments(self):
        wrong = (InvalidTable, wrong_tables())
        for function in (useful_states, least_pair, unanswered, end_paper):
            self.check_wrong(function, (Table.of(ONCE),), wrong)
        for table in (Table.of(ONCE), everything(2, 1)):
            for function in (set_behind, has_answer):
                self.check_wrong(function, (table, "01"), wrong, (InvalidText, wrong_texts(2 ** table.reads)))
        self.check_wrong(lambda table: is_end_paper(table, None), (Table.of(ONCE),), wrong)
        for value in strangers():
            self.assertRaisesThis(InvalidTable, None, is_end_paper, None, value)

    def test_wrong_sets_and_letters(self):
        # The useful states are 0 and 2.
        table = Table.of(ONCE)
        sets = [(1,), (0, 1), (2, 0), (0, 0), (3,), (-1,), (False,), (0, True), (None,), ("0",), [0], [], ((0,),),
                (0, 1, 2), (10 ** 60,), {0: 0}, {}, 0, "0", "", None, (0, 2, 2)]
        letters = [value for value in strangers() if type(value) is not str or value not in ("0", "1")]
        self.check_wrong(following_set, (table, (0, 2), "1"), (InvalidTable, wrong_tables()),
                         (InvalidOperation, sets), (InvalidOperation, letters + ["2", "00", ["0"]]))
        self.check_wrong(following_set, (everything(2, 1), (0,), "3"), (InvalidTable, wrong_tables()),
                         (InvalidOperation, [value for value in strangers() if type(value) is not tuple]),
                         (InvalidOperation, ["4", "", "33", 3, None]))
        self.assertEqual(following_set(table, (), "0"), ())

    def test_a_row_is_no_table(self):
        self.assertRaisesThis(InvalidTable, None, useful_states, Mayrow(1, 1, 1, (), ()))
        self.assertRaisesThis(InvalidTable, None, has_answer, FREE, 7)
