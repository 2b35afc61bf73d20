"""Points 14.1 to 14.4: promises, and papers against them."""

import unittest
from itertools import product

from mayrows.ahead.games import game_paper
from mayrows.book.promises import (does_fit, does_hold, is_name, is_paper_against, is_promise, names_of, paper_against)
from mayrows.errors import InvalidOperation, InvalidPromise, UnknownName
from mayrows.row.rows import Mayrow
from mayrows.table.tables import Table
from tests import gaming, promising
from tests.checking import Checked, spoilt, strangers
from tests.samples import (COPY, FAR, FREE, HALF, LATE, ODD, ONCE, SIXTY, SIXTY_ONE, counter_row, random_row,
                           ring_row)

NAMED = {"copy": COPY, "free": FREE, "late": LATE, "once": ONCE}
TWO = Mayrow(2, 1, 1, ((0, 0, 0, 0), (0, 3, 1, 0)), (0,))
MANY = dict(NAMED, half=HALF, odd=ODD, far=FAR, two=TWO, abcdefgh=Mayrow(1, 1, 1, (), ()), z=Mayrow(1, 1, 1, (), (0,)))
RIGHT = [("within", "a", "b"), ("alike", "abcdefgh", "abcdefgh"), ("answered", "z"), ("most", "a", 0),
         ("most", "a", 99), ("told", "a", (), 0), ("told", "a", (0, 1, 2, 3), 3), ("ahead", "a", 0), ("ahead", "a", 3)]
WRONG = [("within", "a"), ("within", "a", "b", "c"), ("within", "a", "A"), ("within", "", "b"),
         ("alike", "a", "abcdefghi"), ("answered", "a", "b"), ("answered", "a b"), ("answered",), ("most", "a"),
         ("most", "a", 100), ("most", "a", -1), ("most", "a", True), ("most", "a", "1"), ("most", "a", 1, 2),
         ("told", "a", (0,), 4), ("told", "a", (0, 0), 1), ("told", "a", (1, 0), 1), ("told", "a", [0], 1),
         ("told", "a", (4,), 1), ("told", "a", (0, True), 1), ("told", "a", (), False), ("told", "a", ()),
         ("told", "a", (), 1, 2), ("told", "a", 0, 1), ("ahead", "a", 4), ("ahead", "a", -1), ("ahead", "a", True),
         ("ahead", "a", None), ("ahead", "a"), ["answered", "a"], "answered a", ("Within", "a", "b"), ("", "a"),
         (None, "a"), ("put", "a", "b"), ("most", 1, "a"), ("answered", None), (), ("a",), ("within", ("a",), "b"),
         ("most", "a", 1, 2, 3), ("within", "a", "b", "b", "b"), ("ahead", "a", 1, 1, 1), ("most", "a", 10 ** 60),
         ("told", "a", (0,), 10 ** 99)]


def small_rows():
    """Named rows, with all promises that fit about them."""
    yield MANY
    for reads, writes in product((1, 2), repeat=2):
        yield {"ab"[at]: random_row(seed + at, reads, writes, 2) for seed in (300, 304) for at in range(2)}
        yield {"ab"[at]: random_row(310 + at, reads, writes, 2) for at in range(2)}


def judged_promises():
    """Named rows with promises about them, each with the paper against it as far as small widths show it."""
    if not KNOWN:
        for rows in small_rows():
            for promise in promising.all_promises(rows, (0, 1, 2, 3, 5, 99)):
                row = rows[promise[1]]
                most = {2: 4, 3: 3}.get(row.reads + row.writes, 2)
                if promise[0] == "ahead" and len(Table.of(row)) << row.reads * promise[2] > 192:
                    continue
                KNOWN.append((rows, promise, most, promising.paper_against(promise, rows, most)))
    return KNOWN


KNOWN = []


class ExamplesTest(Checked):

    def test_examples(self):
        self.assertEqual([does_hold(("within", "once", "free"), NAMED), does_hold(("ahead", "late", 1), NAMED),
                          does_fit(("told", "copy", (0, 2), 1), NAMED), names_of(("alike", "b", "a"))],
                         [True, True, False, ("b", "a")])
        self.assertEqual([paper_against(("within", "copy", "once"), NAMED), paper_against(("most", "once", 2), NAMED),
                          paper_against(("told", "copy", (), 1), NAMED)],
                         [("pair", "11", "11"), ("question", "11"), ("parts", ("0", "0"), ("1", "1"))])


class FormTest(Checked):

    def test_names(self):
        for value in ("a", "z", "abcdefgh", "zzzzzzzz", "lot", "put"):
            self.assertIs(self.answer(is_name, value), True)
        for value in strangers() + ["abcdefghi", "A", "aB", "a1", "a ", " a", "a\n", "a-", "a" * 3000, ("a",), ["a"],
                                    "`", "{"]:
            self.assertIs(self.answer(is_name, value), promising.is_name(value), value)
            self.assertIs(is_name(value), type(value) is str and value == "x")

    def test_promises(self):
        for value in RIGHT:
            self.assertIs(self.answer(is_promise, value), True)
        for value in WRONG + strangers():
            self.assertIs(self.answer(is_promise, value), False, value)

    def test_spoilt_promises(self):
        for promise in RIGHT:
            for value in spoilt(promise):
                self.assertIs(is_promise(value), promising.is_promise(value), value)

    def test_any_value_can_be_judged(self):
        for part in strangers() + [10 ** 5000, "a" * 5000]:
            for promise in RIGHT:
                for at in range(len(promise)):
                    value = promise[:at] + (part,) + promise[at + 1:]
                    self.assertIs(is_promise(value), promising.is_promise(value), value)
            for value in (("told", "a", (part,), 0), ("told", "a", (0, part), 0), (part, part)):
                self.assertIs(is_promise(value), promising.is_promise(value), value)

    def test_names_of(self):
        for promise in RIGHT:
            expected = [part for part in promise[1:] if type(part) is str]
            self.assertEqual(self.answer(names_of, promise), tuple(dict.fromkeys(expected)))
        for value in WRONG + strangers():
            self.assertRaisesThis(InvalidPromise, None, names_of, value)


class FitTest(Checked):

    def test_shapes(self):
        shapes = {"ab"[reads - 1] + "ab"[writes - 1]: Mayrow(reads, writes, 1, (), (0,))
                  for reads in (1, 2) for writes in (1, 2)}
        for one, other in product(shapes, repeat=2):
            for word in ("within", "alike"):
                self.assertIs(self.answer(does_fit, (word, one, other), shapes), one == other)
        for name, row in shapes.items():
            for lines, line in product(gaming.subsets(4), range(4)):
                self.assertIs(does_fit(("told", name, lines, line), shapes),
                              all(one < row.reads + row.writes for one in lines + (line,)))
            for promise in (("answered", name), ("most", name, 99), ("ahead", name, 3)):
                self.assertIs(does_fit(promise, shapes), True)

    def test_errors_in_their_order(self):
        functions = (does_fit, does_hold, paper_against, lambda promise, rows: is_paper_against(promise, rows, None))
        wrong_rows = [value for value in strangers() if value != {}] + [
            {"A": COPY}, {"a": COPY, "abcdefghi": COPY}, {"": COPY}, {"a": None}, {"a": Table.of(COPY)}, {0: COPY},
            {"a": COPY, "b": (COPY,)}, {("a",): COPY}, [("a", COPY)], (("a", COPY),), {"a": COPY, True: COPY}]
        for function in functions:
            for promise in WRONG + strangers():
                self.assertRaisesThis(InvalidPromise, None, function, promise, {})
                self.assertRaisesThis(InvalidPromise, None, function, promise, None)
            for rows in wrong_rows:
                for promise in (("answered", "a"), ("within", "lost", "a"), ("told", "a", (3,), 3)):
                    self.assertRaisesThis(InvalidOperation, None, function, promise, rows)
            for promise, name in ((("within", "b", "a"), "b"), (("within", "a", "c"), "a"), (("answered", "zz"), "zz"),
                                  (("alike", "copy", "copyy"), "copyy"), (("told", "late", (3,), 0), None)):
                if name is None:
                    continue
                with self.assertRaises(UnknownName) as caught:
                    function(promise, NAMED)
                self.assertEqual(caught.exception.wanted, name)
        for promise in (("within", "copy", "two"), ("alike", "two", "copy"), ("told", "copy", (2,), 0),
                        ("told", "copy", (), 2), ("told", "two", (0, 1), 3)):
            self.assertIs(does_fit(promise, MANY), False)
            for function in functions[1:]:
                self.assertRaisesThis(InvalidOperation, None, function, promise, MANY)
        with self.assertRaises(UnknownName):
            does_hold(("within", "lost", "copy"), MANY)


class JudgedTest(Checked):

    def test_all_promises(self):
        found = {}
        for rows, promise, most, expected in judged_promises():
            holds = self.answer(does_hold, promise, rows)
            paper = self.answer(paper_against, promise, rows)
            self.assertIs(holds, paper is None)
            found[promise[0], holds] = found.get((promise[0], holds), 0) + 1
            if expected is None:
                self.assertTrue(paper is None or max(map(len, _texts(paper))) > most)
            elif promise[0] == "ahead":
                self.assertEqual((len(paper), paper[0], paper[1][0]), (2, "asked", "lost"))
                self.assertIs(gaming.is_game_paper(Table.of(rows[promise[1]]), promise[2], paper[1]), True)
            else:
                self.assertEqual(paper, expected)
        self.assertEqual(len(found), 12)
        self.assertGreater(min(found.values()), 5)

    def test_papers_are_judged(self):
        for rows, promise, most, expected in judged_promises()[::5]:
            paper = paper_against(promise, rows)
            self.assertIs(self.answer(is_paper_against, promise, rows, paper), paper is not None)
            for value in (None, ("pair", "", ""), ("question", ""), ("question", "0"),
                          ("parts", ("0", "0"), ("1", "1")), ("asked", ("lost", (), "")), ("pair", "0", "0")):
                if promise[0] != "ahead":
                    self.assertIs(is_paper_against(promise, rows, value), value == paper and paper is not None)

    def test_only_ahead_has_several_papers(self):
        paper = paper_against(("ahead", "late", 0), MANY)
        self.assertEqual(paper, ("asked", game_paper(Table.of(LATE), 0)))
        for rank in range(3, 9):
            rows = paper[1][1]
            other = ("asked", ("lost", (rows[0][:2] + (rank,) + rows[0][3:],) + rows[1:], ""))
            self.assertIs(is_paper_against(("ahead", "late", 0), MANY, other), True)
        self.assertIs(is_paper_against(("ahead", "late", 1), MANY, paper), False)
        self.assertIs(is_paper_against(("ahead", "copy", 0), MANY, ("asked", game_paper(Table.of(COPY), 0))), False)
        # Other questions and pairs that show the same are no papers here.
        self.assertIs(is_paper_against(("most", "once", 2), MANY, ("question", "011")), False)
        self.assertIs(is_paper_against(("within", "copy", "once"), MANY, ("pair", "011", "011")), False)
        self.assertIs(is_paper_against(("told", "copy", (), 1), MANY, ("parts", ("1", "1"), ("0", "0"))), False)
        self.assertIs(is_paper_against(("answered", "half"), MANY, ("question", "01")), False)

    def test_spoilt_papers(self):
        for promise in (("within", "copy", "once"), ("alike", "free", "late"), ("answered", "half"),
                        ("most", "once", 2), ("told", "copy", (), 1), ("ahead", "late", 0), ("ahead", "odd", 1)):
            paper = paper_against(promise, MANY)
            table = Table.of(MANY[promise[1]])
            for value in spoilt(paper):
                right = (promise[0] == "ahead" and type(value) is tuple and len(value) == 2 and value[0] == "asked"
                         and gaming.is_game_paper(table, promise[2], value[1]))
                self.assertIs(is_paper_against(promise, MANY, value), right, value)

    def test_any_value_can_be_judged(self):
        for part in strangers() + [10 ** 5000, "1" * 5000]:
            for promise in (("within", "copy", "once"), ("most", "once", 2), ("told", "copy", (), 1),
                            ("ahead", "late", 0), ("answered", "copy")):
                for value in (part, (part,), (part, part), ("asked", part), ("pair", "11", part),
                              ("parts", part, ("1", "1")), (part, ("lost", (), "")), ("asked", ("lost", (part,), "")),
                              ("question", part)):
                    self.assertIs(is_paper_against(promise, MANY, value), False)

    def test_too_many(self):
        rows = {"a": SIXTY_ONE, "b": SIXTY, "c": COPY}
        functions = (does_hold, paper_against, lambda promise, named: is_paper_against(promise, named, None))
        for function in functions:
            for promise in (("answered", "a"), ("within", "a", "c"), ("within", "c", "a"), ("most", "a", 99),
                            ("alike", "a", "a"), ("told", "a", (), 0), ("ahead", "a", 0)):
                self.assertTooMany(60, function, promise, rows)
            self.assertTooMany(20, function, ("told", "b", (0,), 1), rows)
            self.assertTooMany(192, function, ("ahead", "b", 2), rows)
        self.assertIs(does_fit(("within", "a", "b"), rows), True)
        self.assertIs(does_hold(("alike", "b", "b"), rows), True)
        self.assertIs(does_hold(("within", "b", "b"), rows), True)


# It writes at most one 1, at the first, fourth, seventh place and so on.
SLOW = Mayrow(1, 1, 4, ((0, 0, 0, 1), (0, 1, 0, 1), (0, 1, 1, 3), (1, 0, 0, 2), (1, 1, 0, 2), (2, 0, 0, 0),
                        (2, 1, 0, 0), (3, 0, 0, 3), (3, 1, 0, 3)), (0, 1, 2, 3))
# Two counters, one for each of two letters; another letter leads from each of them to the last state.
COUNTERS = Mayrow(2, 1, 4, ((0, 0, 0, 0), (0, 1, 0, 0), (0, 0, 1, 1), (0, 1, 1, 2), (1, 0, 0, 1), (1, 1, 0, 1),
                            (1, 3, 0, 3), (2, 0, 0, 2), (2, 1, 0, 2), (2, 2, 0, 3)), (3,))


class ManyAnswersTest(Checked):

    def test_wide_papers(self):
        rows = {"slow": SLOW}
        self.assertEqual(paper_against(("most", "slow", 67), rows), ("question", ("100" * 67)[:199]))
        self.assertIs(does_hold(("most", "slow", 67), rows), False)
        for number in (68, 99):
            promise = ("most", "slow", number)
            # The question that is asked for [14.4] has more than 200 letters, whatever of it is told.
            self.assertTooMany(200, does_hold, promise, rows)
            self.assertTooMany(200, paper_against, promise, rows)
            self.assertTooMany(200, is_paper_against, promise, rows, ("question", "1" * 200))

    def test_many_vectors(self):
        rows = {"two": COUNTERS}
        self.assertEqual(paper_against(("most", "two", 0), rows), ("question", "03"))
        for function in (does_hold, paper_against):
            self.assertTooMany(2000, function, ("most", "two", 99), rows)
        self.assertTooMany(2000, is_paper_against, ("most", "two", 99), rows, None)
        self.assertIs(does_hold(("answered", "two"), rows), False)


# Rings and counters, with the width of the least pair of the ring that the counter has not.
EVERY = (0, 1, 2, 3, 4, 5)
WIDE = [(EVERY, (0, 1, 2, 3, 5), 196), ((2,), (0, 1, 2, 3, 5), 197), ((5,), (0, 1, 2, 3, 5), 200),
        (EVERY, (0, 4, 5), 201), ((2,), (0, 4, 5), 202), (EVERY, EVERY, 236), ((0, 5), EVERY, 240)]
RINGS = {"ring": ring_row(EVERY), "counter": counter_row(EVERY),
         "both": ring_row(EVERY).also_with(choices=((0, 1, 1, 0),))}


class WidePairsTest(Checked):

    def test_a_wide_least_pair(self):
        promise = ("within", "ring", "counter")
        for lasts, begun, width in WIDE:
            rows = {"ring": ring_row(lasts), "counter": counter_row(begun)}
            tables = [Table.of(rows[name]) for name in ("ring", "counter")]
            self.assertEqual(promising.width_ahead(*tables), width)
            self.assertIs(self.answer(does_hold, promise, rows), False)
            if width > 200:
                self.assertTooMany(200, paper_against, promise, rows)
                for value in (None, ("pair", "0", "0"), ("pair", "0" * 200, "0" * 200)):
                    self.assertTooMany(200, is_paper_against, promise, rows, value)
            else:
                paper = self.answer(paper_against, promise, rows)
                self.assertEqual([len(part) for part in paper], [4, width, width])
                self.assertEqual([paper[1:] in table for table in tables], [True, False])
                self.assertIs(is_paper_against(promise, rows, paper), True)

    def test_within_that_holds(self):
        for one, other in (("ring", "both"), ("ring", "ring"), ("counter", "counter"), ("both", "both")):
            promise = ("within", one, other)
            self.assertIs(promising.width_ahead(Table.of(RINGS[one]), Table.of(RINGS[other])), None)
            self.assertIs(self.answer(does_hold, promise, RINGS), True)
            self.assertIs(paper_against(promise, RINGS), None)
            self.assertIs(is_paper_against(promise, RINGS, ("pair", "", "")), False)

    def test_narrow_pairs_of_the_same_rows(self):
        for promise, paper in ((("within", "both", "ring"), ("pair", "1", "1")),
                               (("within", "counter", "ring"), ("pair", "0", "0")),
                               (("alike", "ring", "both"), ("pair", "1", "1")),
                               (("alike", "ring", "counter"), ("pair", "0", "0")),
                               (("alike", "counter", "ring"), ("pair", "0", "0"))):
            self.assertIs(self.answer(does_hold, promise, RINGS), False)
            self.assertEqual(paper_against(promise, RINGS), paper)

    def test_alike_rows_that_are_unlike(self):
        turned = {state: (0, 2, 3, 4, 5, 1)[state] for state in EVERY}
        choices = tuple([(turned[state], letter, answer, turned[following])
                         for state, letter, answer, following in RINGS["ring"].choices])
        rows = dict(RINGS, turned=Mayrow(1, 2, 6, choices, EVERY))
        self.assertIs(rows["turned"] == rows["ring"], False)
        for one, other in (("ring", "turned"), ("turned", "ring"), ("ring", "ring"), ("counter", "counter")):
            self.assertIs(self.answer(does_hold, ("alike", one, other), rows), True)
            self.assertIs(paper_against(("alike", one, other), rows), None)


def _texts(paper):
    """All texts in a paper behind its word."""
    return [text for part in paper[1:] for text in ((part,) if type(part) is str else part)]


if __name__ == "__main__":
    unittest.main()
