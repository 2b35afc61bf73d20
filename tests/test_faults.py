"""Points 13.1 to 13.6: what a broken row answers, where a fault may show, and where it surely shows."""

import random
import unittest
from itertools import product
from unittest import mock

from mayrows.errors import InvalidNumber, InvalidOperation, InvalidRow, InvalidText
from mayrows.fault.faults import (broken_answers, is_no_show_paper, is_no_sure_paper, may_show, no_show_paper,
                                  no_sure_paper, places_shown, surely_shows)
from mayrows.row.cells import cell_row
from mayrows.row.rows import Mayrow
from mayrows.table.tables import Table
from tests import breaking, oracles
from tests.checking import Checked, spoilt, strangers, wrong_numbers, wrong_rows, wrong_texts
from tests.samples import COPY, FREE, LATE, ONCE, SIXTY, SIXTY_ONE, random_row

# A letter `0` doubles the number of the answers, and a letter `1` adds one to it.
HORNER = Mayrow(1, 1, 2, ((0, 0, 0, 0), (0, 1, 0, 0), (0, 1, 1, 1), (1, 0, 0, 1), (1, 0, 1, 1), (1, 1, 0, 1)), (1,))
FLIP = Mayrow(1, 1, 1, ((0, 0, 1, 0), (0, 1, 1, 0)), ())
AGAIN = Mayrow(1, 1, 2, ((0, 1, 1, 0), (1, 1, 1, 1)), ())
SILENT = Mayrow(1, 1, 3, (), ())


def told_rows(reads, writes, states, lasts, *told):
    """Rows with these last states, one for each string of choices."""
    return tuple([Mayrow(reads, writes, states, tuple([tuple(map(int, word)) for word in words.split()]), lasts)
                  for words in told])


# Rows with faults that have 2000 bunches and one more: two that never surely show, and two that do so soon.
STILL = told_rows(1, 1, 6, (1, 2, 3, 4, 5),
    "0003 0010 0013 0105 1003 1010 1011 1111 2004 2005 2104 3000 3003 3015 3102 3111 3112 4001 4002 4015 4110 "
    "5003 5005 5111 ",
    "0000 0003 0010 0013 0105 1001 1003 1010 1011 1105 1111 2004 2005 2104 3000 3003 3014 3015 3102 3111 3112 "
    "4001 4002 4015 4100 4110 5003 5004 5005 5010 5100 5111 ")
STILL_MORE = told_rows(1, 1, 6, (0, 1, 2, 3, 4, 5),
    "0004 0012 0101 1003 1015 1101 2011 2115 3010 3100 4013 4111 4114 5000 5105 5113 ",
    "0002 0004 0012 0101 1003 1015 1101 1113 2011 2115 3010 3100 4003 4011 4013 4111 4114 5000 5105 5113 ")
SHOWN = told_rows(2, 1, 4, (1, 2, 3),
    "0003 0010 0012 0111 0210 0301 0310 0311 1013 1111 1211 1301 1302 2002 2011 2102 2201 2212 2300 2302 2303 "
    "2311 3001 3200 3203 3212 ",
    "0113 2003 2103 3012 ")
SHOWN_MORE = told_rows(1, 1, 6, (0, 1, 2, 4, 5),
    "0001 0114 1112 1113 2013 2015 2101 3012 3102 4001 4013 4104 5002 5004 5010 5012 5103 5115 ",
    "0101 1015 1104 2004 2104 3011 3114 4101 4103 5015 5100 ")


def random_fault(row, seed, many=None):
    """A fault of a row: some choices, of which some are those of the row."""
    chance = random.Random(seed)
    every = [(state, letter, answer, following) for state in range(row.states) for letter in range(2 ** row.reads)
             for answer in range(2 ** row.writes) for following in range(row.states)]
    most = len(row.choices) + 2 if many is None else many
    kept = [choice for choice in row.choices if chance.random() < 0.5]
    wanted = chance.sample(every, min(len(every), chance.randint(0, most)))
    lasts = chance.sample(range(row.states), chance.randint(0, row.states))
    return Mayrow(row.reads, row.writes, row.states, tuple(set(kept + wanted)), tuple(lasts))


def some_faults():
    """Rows with faults."""
    yield from [(COPY, FREE), (FREE, COPY), (COPY, FLIP), (FREE, FLIP), (ONCE, AGAIN), (LATE, SILENT), (LATE, LATE)]
    for reads, writes in product((1, 2), repeat=2):
        for seed in range(40 if reads + writes == 2 else 12):
            row = random_row(seed + 1000 * reads + 100 * writes, reads, writes)
            yield row, random_fault(row, seed)
            yield row, random_fault(row, seed + 50, 3)


def small(row):
    """The greatest width up to which all questions are looked at."""
    return {2: 6, 3: 4}.get(row.reads + row.writes, 3)


class ExamplesTest(Checked):

    def test_examples(self):
        self.assertEqual([may_show(COPY, FREE), surely_shows(COPY, FREE), may_show(FREE, COPY),
                          surely_shows(COPY, FLIP)],
                         [("1", 0, "0"), None, None, ("0", 0)])
        self.assertEqual([broken_answers(ONCE, AGAIN, "11", 0), broken_answers(ONCE, AGAIN, "11", 1),
                          may_show(ONCE, AGAIN), places_shown(ONCE, AGAIN, "11")],
                         [("10", "11"), ("01", "11"), ("11", 0, "11"), ((0, 1), ())])
        self.assertIs(is_no_show_paper(FREE, COPY, ((0, 0, 0), (1, 0, 0))), True)
        self.assertIs(is_no_sure_paper(COPY, FREE, ((0, ((0, 0),)), (1, ((0, 0),)), (1, ((0, 0), (0, 1))))), True)
        self.assertRaisesThis(InvalidNumber, 0, broken_answers, COPY, FREE, "", 0)


class AnswersTest(Checked):

    def test_all_questions_of_small_widths(self):
        for row, fault in some_faults():
            for question in breaking.questions(row, small(row) - 1):
                for place in range(len(question)):
                    self.assertEqual(self.answer(broken_answers, row, fault, question, place),
                                     breaking.broken_answers(row, fault, question, place))
                self.assertEqual(self.answer(places_shown, row, fault, question),
                                 breaking.places_shown(row, fault, question))

    def test_lasts_of_the_fault_have_no_effect(self):
        for row, fault in some_faults():
            for lasts in ((), (0,), tuple(range(row.states))):
                other = Mayrow(row.reads, row.writes, row.states, fault.choices, lasts)
                for question in breaking.questions(row, 2):
                    self.assertEqual(places_shown(row, other, question), places_shown(row, fault, question))
                    for place in range(len(question)):
                        self.assertEqual(broken_answers(row, other, question, place),
                                         broken_answers(row, fault, question, place))
                self.assertEqual((may_show(row, other), surely_shows(row, other)),
                                 (may_show(row, fault), surely_shows(row, fault)))

    def test_a_thousand_answers_and_one_more(self):
        # The row has 1000 answers to this question; a 1 adds one answer to all, and the fault exchanges both letters.
        question = "101010101001000"
        swapped = Mayrow(1, 1, 2, tuple([(state, 1 - letter, said, following)
                                         for state, letter, said, following in HORNER.choices]), ())
        for fault, asked, place in ((HORNER, question, 3), (swapped, question[:-1] + "1", 14),
                                    (swapped, "0" + question[1:], 0)):
            found = self.answer(broken_answers, HORNER, fault, asked, place)
            self.assertEqual((len(found), len(set(found)), list(found) == sorted(found)), (1000, 1000, True))
        self.assertTooMany(1000, broken_answers, HORNER, swapped, question + "0", 15)
        self.assertTooMany(1000, broken_answers, HORNER, HORNER, question + "1", 0)
        self.assertTooMany(1000, broken_answers, FREE, FREE, "1" * 200, 100)
        # More than 1000 texts are written on the way, but the broken place goes on behind one of them alone.
        row = Mayrow(1, 1, 2, ((0, 1, 0, 0), (0, 1, 1, 1), (1, 1, 0, 1), (1, 1, 1, 1), (1, 0, 0, 1)), (0, 1))
        only = Mayrow(1, 1, 2, ((0, 0, 0, 0),), ())
        self.assertEqual(broken_answers(row, only, "1" * 30 + "0", 30), ("0" * 31,))

    def test_wide_questions(self):
        question = "01" * 100
        self.assertEqual(broken_answers(COPY, FLIP, question, 198), ("01" * 99 + "11",))
        self.assertEqual(broken_answers(COPY, FLIP, question, 199), (question,))
        self.assertEqual(places_shown(COPY, FLIP, question), (tuple(range(0, 200, 2)),) * 2)
        self.assertEqual(places_shown(COPY, FLIP, ""), ((), ()))
        self.assertEqual(places_shown(LATE, SILENT, "0110"), ((), ()))

    def test_cells_with_another_rule(self):
        rule = {(0, 0, 0): ((0, 0, 0),), (0, 1, 0): ((1, 1, 0),), (1, 0, 0): ((1, 1, 0),), (1, 1, 0): ((1, 1, 0),)}
        deaf = {(0, 0, 0): ((0, 0, 0),), (0, 1, 0): ((0, 0, 0),), (1, 0, 0): ((0, 0, 0),), (1, 1, 0): ((0, 0, 0),)}
        row, fault = cell_row(1, 1, 2, 1, rule), cell_row(1, 1, 2, 1, deaf)
        self.assertEqual(broken_answers(row, fault, "0100", 1), ("0000",))
        self.assertEqual(broken_answers(row, fault, "0100", 2), ("0100",))
        self.assertEqual((may_show(row, fault), surely_shows(row, fault)), (("1", 0, "0"), ("1", 0)))


class LeastTest(Checked):

    def test_least_ones(self):
        found = {"may": 0, "surely": 0, "none": 0}
        for row, fault in some_faults():
            most = small(row)
            may, surely = self.answer(may_show, row, fault), self.answer(surely_shows, row, fault)
            expected = breaking.least_shows(row, fault, most)
            self.assertEqual(expected[0], None if may is None or len(may[0]) > most else may)
            self.assertEqual(expected[1], None if surely is None or len(surely[0]) > most else surely)
            found["may"] += may is not None
            found["surely"] += surely is not None
            found["none"] += may is None
            if surely is not None:
                # Where it surely shows, it may show.
                self.assertIsNotNone(may)
                self.assertIn(surely[1], places_shown(row, fault, surely[0])[1])
        self.assertGreater(min(found.values()), 15)

    def test_the_question_counts_first(self):
        # Of the least question the last place is the only one; a later question has an earlier place.
        row = Mayrow(1, 1, 2, ((0, 0, 0, 1), (1, 0, 0, 1), (0, 1, 0, 1), (1, 1, 0, 1)), (1,))
        fault = Mayrow(1, 1, 2, ((1, 0, 1, 1), (0, 1, 1, 1), (1, 1, 1, 1), (0, 0, 0, 1)), ())
        self.assertEqual((may_show(row, fault), surely_shows(row, fault)), (("1", 0, "1"), ("1", 0)))
        later = Mayrow(1, 1, 2, ((1, 0, 1, 1), (0, 0, 0, 1)), ())
        self.assertEqual((may_show(row, later), surely_shows(row, later)), (("00", 1, "01"), ("00", 1)))
        # Of one question the first place, and of this place the least answer.
        both = Mayrow(1, 2, 1, ((0, 0, 2, 0), (0, 0, 1, 0)), ())
        self.assertEqual(may_show(Mayrow(1, 2, 1, ((0, 0, 3, 0),), (0,)), both), ("0", 0, "1"))

    def test_choices_of_the_row(self):
        for row, fault in some_faults():
            only = Mayrow(row.reads, row.writes, row.states, row.choices[::2], ())
            self.assertIsNone(may_show(row, only))
            self.assertIsNone(surely_shows(row, only))
            self.assertIsNotNone(no_show_paper(row, only))
            more = fault.also_with(choices=row.choices)
            for question in breaking.questions(row, small(row) - 1):
                if row.answers(question):
                    self.assertEqual(places_shown(row, more, question)[1], ())
            self.assertIsNone(may_show(row, row))

    def test_may_and_surely(self):
        # [0.18] A fault that may show shows surely for no question.
        self.assertEqual((may_show(COPY, FREE), surely_shows(COPY, FREE)), (("1", 0, "0"), None))

    def test_rows_with_many_states(self):
        self.assertEqual((len(Table.of(SIXTY)), SIXTY.states), (60, 6))
        silent = Mayrow(1, 1, 6, (), ())
        for function in (may_show, surely_shows, no_show_paper, no_sure_paper):
            self.answer(function, SIXTY, silent)
            self.assertTooMany(60, function, SIXTY_ONE, silent)
        self.assertTooMany(60, places_shown, SIXTY_ONE, silent, "0")
        for value in (None, (), ((0, 0, 0),)):
            self.assertTooMany(60, is_no_show_paper, SIXTY_ONE, silent, value)
            self.assertTooMany(60, is_no_sure_paper, SIXTY_ONE, silent, value)
        self.assertEqual(broken_answers(SIXTY_ONE, silent, "0", 0), ())
        self.assertEqual(broken_answers(SIXTY_ONE, SIXTY_ONE, "01", 0), SIXTY_ONE.answers("01"))
        may = may_show(SIXTY, random_fault(SIXTY, 3))
        self.assertEqual(breaking.least_shows(SIXTY, random_fault(SIXTY, 3), len(may[0]))[0], may)

    def test_wide_questions_are_not_returned(self):
        # No rows are known here that come to such a question, so it is put in their place.
        for width, error in ((200, False), (201, True)):
            texts = ("0" * width, "1" * (width - 1) + "0", "1" * width)
            with mock.patch("mayrows.fault.faults.least_tracks", lambda *_: texts):
                if error:
                    self.assertTooMany(200, may_show, COPY, FREE)
                else:
                    self.assertEqual(may_show(COPY, FREE), (texts[0], width - 1, texts[2]))
            with mock.patch("mayrows.fault.faults.least_tracks", lambda *_: texts[:2]):
                if error:
                    self.assertTooMany(200, surely_shows, COPY, FLIP)
                else:
                    self.assertEqual(surely_shows(COPY, FLIP), (texts[0], width - 1))

    def test_many_bunches(self):
        for (row, fault), many in ((STILL, 2000), (SHOWN, 2000), (STILL_MORE, 2001), (SHOWN_MORE, 2001)):
            self.assertEqual(len(breaking.all_bunches(row, fault)), many)
            expected = breaking.least_shows(row, fault, 3)[1]
            self.assertEqual(expected is None, (row, fault) in (STILL, STILL_MORE))
            if many > 2000:
                self.assertTooMany(2000, surely_shows, row, fault)
                self.assertTooMany(2000, no_sure_paper, row, fault)
                self.assertIs(is_no_sure_paper(row, fault, ((0, ((0, 0),)),)), False)
            else:
                self.assertEqual(surely_shows(row, fault), expected)
                self.assertIs(no_sure_paper(row, fault) is None, expected is not None)
        paper = no_sure_paper(*STILL)
        self.assertEqual(len(paper), 2000)
        self.assertIs(is_no_sure_paper(*STILL, paper), True)
        self.assertIs(is_no_sure_paper(*STILL, paper[:-1]), False)
        # A paper may have more than 2000 bunches.
        long_paper = tuple(sorted(breaking.all_bunches(*STILL_MORE)))
        self.assertIs(is_no_sure_paper(*STILL_MORE, long_paper), True)
        self.assertIs(is_no_sure_paper(*STILL_MORE, long_paper[:700] + long_paper[701:]), False)


class PapersTest(Checked):

    def test_told_papers_are_right(self):
        found = {"show": 0, "sure": 0}
        for row, fault in some_faults():
            paper, sure = self.answer(no_show_paper, row, fault), self.answer(no_sure_paper, row, fault)
            self.assertEqual(paper is None, may_show(row, fault) is not None)
            self.assertEqual(sure is None, surely_shows(row, fault) is not None)
            if paper is not None:
                found["show"] += 1
                self.assertIs(breaking.is_no_show_paper(row, fault, paper), True)
                self.assertIs(self.answer(is_no_show_paper, row, fault, paper), True)
            if sure is not None:
                found["sure"] += 1
                self.assertIs(breaking.is_no_sure_paper(row, fault, sure), True)
                self.assertIs(self.answer(is_no_sure_paper, row, fault, sure), True)
        self.assertGreater(min(found.values()), 30)

    def test_other_spots(self):
        # A paper may have more spots than the met ones, if what follows them is there, too.
        counts = {True: 0, False: 0}
        for row, fault in ((FREE, COPY), (LATE, SILENT), (LATE, LATE), (ONCE, ONCE), (ONCE, AGAIN), (COPY, FLIP)):
            table = Table.of(row)
            met = no_show_paper(row, fault) or ((0, 0, 0),)
            for spot in product(range(2), range(row.states), range(len(table))):
                for base in (set(met) - {spot}, set(met) | {spot}, closure(row, fault, table, set(met) | {spot})):
                    value = tuple(sorted(base))
                    right = breaking.is_no_show_paper(row, fault, value)
                    counts[right] += 1
                    self.assertIs(is_no_show_paper(row, fault, value), right)
        self.assertGreater(min(counts.values()), 20)

    def test_other_bunches(self):
        counts = {True: 0, False: 0}
        for row, fault in ((COPY, FREE), (FREE, COPY), (ONCE, AGAIN), (LATE, SILENT), (COPY, FLIP)):
            table = Table.of(row)
            met = no_sure_paper(row, fault) or ((0, ((0, 0),)),)
            every = [(0, 0), (0, 1), (row.states - 1, 0), (row.states - 1, len(table) - 1)]
            more = [(phase, tuple(sorted(set(pairs)))) for phase in range(2)
                    for size in range(1, 4) for pairs in product(every, repeat=size)]
            for bunch in sorted(set(more)):
                for base in (set(met) - {bunch}, set(met) | {bunch}, bunch_closure(row, fault, table,
                                                                                   set(met) | {bunch})):
                    value = tuple(sorted(base))
                    right = breaking.is_no_sure_paper(row, fault, value)
                    counts[right] += 1
                    self.assertIs(is_no_sure_paper(row, fault, value), right)
        self.assertGreater(min(counts.values()), 50)

    def test_spoilt_papers(self):
        wrong = 0
        for row, fault in ((FREE, COPY), (LATE, SILENT), (ONCE, ONCE), (COPY, FREE)):
            for value in spoilt(no_show_paper(row, fault)):
                right = breaking.is_no_show_paper(row, fault, value)
                wrong += not right
                self.assertIs(is_no_show_paper(row, fault, value), right, value)
            for value in spoilt(no_sure_paper(row, fault)):
                right = breaking.is_no_sure_paper(row, fault, value)
                wrong += not right
                self.assertIs(is_no_sure_paper(row, fault, value), right, value)
        self.assertGreater(wrong, 500)

    def test_any_value_can_be_judged(self):
        for part in strangers() + [10 ** 5000, "1" * 5000]:
            for value in (part, (part,), ((0, 0, 0), part), ((0, 0, part),), ((part, 0, 0),), ((0, part, 0), (1, 0, 0)),
                          ((0, part),), ((part, ((0, 0),)),), ((0, (part,)),), ((0, ((0, part),)),),
                          ((0, ((0, 0),)), (1, part)), ((0, ((0, 0),)), part), ((0, ((0, 0),)), (1, ((part, 0),)))):
                for row, fault in ((FREE, COPY), (COPY, FREE), (LATE, SILENT)):
                    self.assertIs(is_no_show_paper(row, fault, value), breaking.is_no_show_paper(row, fault, value))
                    self.assertIs(is_no_sure_paper(row, fault, value), breaking.is_no_sure_paper(row, fault, value))

    def test_booleans_are_no_integers(self):
        self.assertIs(is_no_show_paper(FREE, COPY, ((0, 0, 0), (True, 0, 0))), False)
        self.assertIs(is_no_show_paper(FREE, COPY, ((False, 0, 0), (1, 0, 0))), False)
        for value in (((0, ((0, 0),)), (True, ((0, 0),)), (1, ((0, 0), (0, 1)))),
                      ((0, ((0, 0),)), (1, ((0, 0),)), (1, ((0, 0), (0, True))))):
            self.assertIs(is_no_sure_paper(COPY, FREE, value), False)

    def test_phases(self):
        paper, sure = no_show_paper(FREE, COPY), no_sure_paper(COPY, FREE)
        for phase in (2, 3, -1):
            self.assertIs(is_no_show_paper(FREE, COPY, tuple(sorted(paper + ((phase, 0, 0),)))), False)
            self.assertIs(is_no_sure_paper(COPY, FREE, tuple(sorted(sure + ((phase, ((0, 0),)),)))), False)

    def test_empty_bunches(self):
        paper = no_sure_paper(COPY, FREE)
        self.assertIs(is_no_sure_paper(COPY, FREE, paper), True)
        self.assertIs(is_no_sure_paper(COPY, FREE, ((0, ()),) + paper), False)


def closure(row, fault, table, spots):
    """The spots and all that follow them."""
    found = sorted(spots)
    for spot in found:
        found += [one for one in dict.fromkeys(breaking.spots_after(row, fault, table, spot)) if one not in found]
    return set(found)


def bunch_closure(row, fault, table, bunches):
    """The bunches and all that follow them."""
    found = sorted(bunches)
    for bunch in found:
        found += [one for one in dict.fromkeys(breaking.bunches_after(row, fault, table, bunch)) if one not in found]
    return set(found)


class WrongTest(Checked):

    def test_wrong_arguments(self):
        rows = (InvalidRow, wrong_rows())
        texts, places = (InvalidText, wrong_texts(2)), (InvalidNumber, wrong_numbers(0, 1))
        self.check_wrong(broken_answers, (ONCE, AGAIN, "01", 0), rows, rows, texts, places)
        self.check_wrong(places_shown, (ONCE, AGAIN, "01"), rows, rows, texts)
        for function in (may_show, surely_shows, no_show_paper, no_sure_paper):
            self.check_wrong(function, (ONCE, AGAIN), rows, rows)
        for function in (is_no_show_paper, is_no_sure_paper):
            self.check_wrong(lambda row, fault, judged=function: judged(row, fault, None), (ONCE, AGAIN), rows, rows)

    def test_no_fault_of_the_row(self):
        others = [COPY, LATE] + [Mayrow(reads, writes, 2, (), ()) for reads, writes in ((1, 2), (2, 1), (2, 2))]
        for other in others:
            self.assertRaisesThis(InvalidOperation, None, broken_answers, ONCE, other, "4", 7)
            self.assertRaisesThis(InvalidOperation, None, places_shown, ONCE, other, "4")
            for function in (may_show, surely_shows, no_show_paper, no_sure_paper):
                self.assertRaisesThis(InvalidOperation, None, function, ONCE, other)
            for function in (is_no_show_paper, is_no_sure_paper):
                self.assertRaisesThis(InvalidOperation, None, function, ONCE, other, None)
        self.assertRaisesThis(InvalidOperation, None, may_show, SIXTY_ONE, COPY)
        self.assertRaisesThis(InvalidText, None, places_shown, SIXTY_ONE, SIXTY_ONE, "2")

    def test_places(self):
        for place in (2, -1, True, None, "0", 10 ** 99):
            self.assertRaisesThis(InvalidNumber, place, broken_answers, ONCE, AGAIN, "01", place)


if __name__ == "__main__":
    unittest.main()
