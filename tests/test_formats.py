"""Points 15.1 to 15.8: texts of rows, tables, plain rows, promises and books."""

import unittest
from itertools import product

from mayrows.book.books import Book
from mayrows.book.promises import paper_against
from mayrows.errors import (InvalidBook, InvalidPasses, InvalidPromise, InvalidRow, InvalidTable, ParseError, Refused,
                            TooMany)
from mayrows.least.passes import Passes
from mayrows.row.rows import Mayrow
from mayrows.table.calculus import nothing
from mayrows.table.tables import Table
from mayrows.text.formats import (read_any, read_book, read_passes, read_promise, read_row, read_table, view,
                                  write_book, write_passes, write_promise, write_row, write_table)
from tests import promising, wording
from tests.checking import Checked, strangers, wrong_passes, wrong_rows, wrong_tables
from tests.samples import (COPY, FREE, LATE, ONCE, PARITY, SIXTY, SIXTY_ONE, last_passes, random_passes, random_row,
                           random_table, ring_passes, widths_table)
from tests.test_books import filled
from tests.test_promises import NAMED, RIGHT, RINGS, TWO, WRONG

BOOK = "put copy row 1 1 1 0 0000 0110\nput free row 1 1 1 0 0000 0100 0110\npromise within copy free"
WHOLE = BOOK + "\npromise most copy 1\npromise told free 01 0\npromise alike free free"


def values_of(sort):
    """Values of a sort, of all kinds."""
    if sort == "row":
        yield from [COPY, FREE, ONCE, LATE, SIXTY, SIXTY_ONE, TWO, Mayrow(1, 1, 1, (), ()), Mayrow(2, 2, 6, (), (0, 5))]
        yield Mayrow(2, 2, 6, tuple([(one, x, y, two) for one in range(6) for x in range(4) for y in range(4)
                                     for two in range(6)]), (0, 1, 2, 3, 4, 5))
        for seed in range(40):
            yield random_row(seed, 1 + seed % 2, 1 + seed // 2 % 2)
    elif sort == "table":
        yield from [Table.of(row) for row in (COPY, FREE, ONCE, LATE, SIXTY)]
        yield from [nothing(1, 1), nothing(2, 2), ~nothing(2, 1), widths_table([True] * 59 + [False])]
        for seed in range(40):
            yield random_table(seed, 1 + seed % 2, 1 + seed // 2 % 2)
    elif sort == "passes":
        yield from [PARITY, Passes.by_letters(1, 1, (0, 1)), Passes(2, 2, ((0,) * 4,), (), (((((3, 0)),),) * 4,))]
        yield from [ring_passes(30, 30), last_passes(5, 10), Passes(1, 1, ((59, 0),) * 60, tuple(range(60)),
                                                                    (((((0, 0)),) * 60,) * 2,))]
        for seed in range(40):
            yield random_passes(seed, 1 + seed % 2, 1 + seed // 2 % 2)
    else:
        yield from RIGHT
        yield from promising.all_promises({"a": COPY, "abcdefgh": COPY})


FORMATS = {"row": (write_row, read_row), "table": (write_table, read_table), "passes": (write_passes, read_passes),
           "promise": (write_promise, read_promise)}
SHORT = {"row": ["row 1 1 2 01 0000 0110 1001", "row 2 1 1 - 0000 0310", "row 1 2 6 - ", "row 1 1 1 0"],
         "table": ["table 1 1 2 +0,1,1,0 -1,1,1,1", "table 1 1 1 -0,0,0,0", "table 1 1 2 -1,1,1,1 +0,0,0,0"],
         "passes": [write_passes(PARITY), "passes 1 1 1 2 - 0,0 1:1,0:0 0:0,0:1",
                    "passes 1 1 3 1 0,2 1,2 1,1 2,2 0:0,0:0,0:0,0:0,0:0,1:0"],
         "promise": ["within a b", "alike copy abcdefgh", "answered z", "most a 99", "told ab 013 2", "told a - 0",
                     "ahead b 3"]}


class ExamplesTest(Checked):

    def test_examples(self):
        self.assertEqual([write_row(ONCE), write_table(Table.of(COPY)), write_promise(("told", "a", (0, 1), 2)),
                          write_promise(("told", "a", (), 0))],
                         ["row 1 1 2 01 0000 0100 0111 1001 1101", "table 1 1 2 +0,1,1,0 -1,1,1,1", "told a 01 2",
                          "told a - 0"])
        self.assertEqual(write_passes(PARITY), "passes 1 1 2 1 0,1 0,1 1,0 0:0,1:0,0:0,1:0")
        book = read_any(BOOK)
        self.assertEqual([book["copy"] == COPY, book["free"] == FREE, book.promises, view(Table.of(COPY))],
                         [True, True, (("within", "copy", "free"),), " 0*  0  1  1  0\n 1   1  1  1  1"])
        for function, text, spot in ((read_row, "row 1 1 2 10 0000", 10), (read_row, "row 1 1 2 01 0000 ", 18),
                                     (read_table, "table 1 1 2 +0,0,0,0 -1,1,1,1", 29)):
            with self.assertRaises(ParseError) as caught:
                function(text)
            self.assertEqual(caught.exception.spot, spot)
        with self.assertRaises(Refused) as caught:
            read_book("put b row 1 1 1 - 0000\npromise answered b")
        self.assertEqual(caught.exception.reason, ("broken", ("answered", "b"), ("question", "")))


class Spots(Checked):
    """A test case that knows how to look at what cannot be read."""

    def assertSpot(self, spot, function, text):
        """The call raises `ParseError` with this spot."""
        with self.assertRaises(ParseError) as caught:
            function(text)
        self.assertEqual((type(caught.exception), caught.exception.spot), (ParseError, spot), text)


class SortsTest(Spots):

    def test_values_are_read_back(self):
        for sort, (write, read) in FORMATS.items():
            seen = {}
            for value in values_of(sort):
                text = self.answer(write, value)
                self.assertIsNone(wording.wrong_spot(sort, text))
                self.assertEqual(read(text), value)
                self.assertEqual(type(read(text)), type(value))
                self.assertEqual(self.answer(read_any, text), value)
                # Values have just one text each, and unlike ones have unlike texts.
                self.assertEqual(seen.setdefault(text, value), value)
            self.assertGreater(len(seen), 30)

    def test_texts_as_they_are_told(self):
        self.assertEqual(write_row(Mayrow(1, 2, 3, ((2, 1, 3, 0), (0, 0, 0, 2)), (2, 0))), "row 1 2 3 02 0002 2130")
        self.assertEqual(write_row(Mayrow(2, 1, 1, (), ())), "row 2 1 1 -")
        wide = widths_table([True] * 11 + [False])
        self.assertEqual(write_table(wide).split(" ")[:5], ["table", "1", "1", "12", "+1,1,1,1"])
        self.assertEqual(write_table(wide).split(" ")[-1], "-11,11,11,11")
        self.assertEqual(write_passes(Passes(1, 1, ((0, 0),), (), ((((0, 1),), ((1, 0),)), (((0, 0),), ((0, 0),))))),
                         "passes 1 1 1 2 - 0,0 0:1,1:0 0:0,0:0")
        for promise, text in zip(RIGHT, ("within a b", "alike abcdefgh abcdefgh", "answered z", "most a 0", "most a 99",
                                         "told a - 0", "told a 0123 3", "ahead a 0", "ahead a 3")):
            self.assertEqual((write_promise(promise), read_promise(text)), (text, promise))

    def test_spoilt_texts(self):
        counts = {}
        for sort, texts in SHORT.items():
            write, read = FORMATS[sort]
            for text in [spoilt for one in texts for spoilt in wording.spoilt_texts(one)]:
                spot = wording.wrong_spot(sort, text)
                if spot is not None:
                    self.assertSpot(spot, read, text)
                elif sort == "table" and not is_least(text):
                    self.assertSpot(len(text), read, text)
                else:
                    self.assertEqual(write(read(text)), text)
                counts[sort, spot is None] = counts.get((sort, spot is None), 0) + 1
        self.assertEqual(len(counts), 8)
        self.assertGreater(min(counts.values()), 20)

    def test_known_spots(self):
        for sort, text, spot in (
                ("row", "", 0), ("row", " ", 0), ("row", "row", 3), ("row", "row ", 4), ("row", "Row 1 1 1 0", 0),
                ("row", "row 3 1 1 0", 4), ("row", "row 01 1 1 0", 4), ("row", "row 1 1 7 0", 8),
                ("row", "row 1 1 0 0", 8), ("row", "row 1 1 2 00", 10), ("row", "row 1 1 2 02", 10),
                ("row", "row 1 1 2 0-", 10), ("row", "row 1  1 2 0", 6), ("row", "row 1 1 2", 9),
                ("row", "row 1 1 2 0 0000 0000", 17), ("row", "row 1 1 2 0 0001 0000", 17),
                ("row", "row 1 1 2 0 000", 12), ("row", "row 1 1 2 0 00000", 12), ("row", "row 1 1 2 0 0200", 12),
                ("row", "row 1 1 2 0 0000\n", 12), ("row", "row 1 1 2 0\t0000", 10), ("row", " row 1 1 2 0", 0),
                ("table", "table 1 1 61", 10), ("table", "table 1 1 0", 10), ("table", "table 1 1 1 +0,0,0", 12),
                ("table", "table 1 1 1 0,0,0,0", 12), ("table", "table 1 1 1 +0,0,0,1", 12),
                ("table", "table 1 1 1", 11), ("table", "table 1 1 1 +0,0,0,0 +0,0,0,0", 21),
                ("table", "table 1 1 1 +0,0,0,00", 12), ("passes", "passes 1 1 61 1", 11),
                ("passes", "passes 1 1 1 1 0,0", 15), ("passes", "passes 1 1 1 1 1", 15),
                ("passes", "passes 1 1 2 1 1,0", 15), ("passes", "passes 1 1 1 1 0 0", 17),
                ("passes", "passes 1 1 1 1 0 0,0 0:0", 21), ("passes", "passes 1 1 1 1 0 0,0 0:0,2:0", 21),
                ("passes", "passes 1 1 1 1 0 0,0 0:0,0:1", 21), ("passes", "passes 1 1 1 1 0 0,0 0:0,0:0:0", 21),
                ("passes", "passes 1 1 1 1 0 0,0 0:0,0:0 0:0,0:0", 29), ("promise", "within a", 8),
                ("promise", "within a b c", 11), ("promise", "most a 100", 7), ("promise", "most a 00", 7),
                ("promise", "told a  0", 7), ("promise", "told a 10 0", 7), ("promise", "told a 4 0", 7),
                ("promise", "told a 0 4", 9), ("promise", "ahead a 4", 8), ("promise", "answered abcdefghi", 9),
                ("promise", "answered", 8), ("promise", "told a -1 0", 7)):
            self.assertEqual(wording.wrong_spot(sort, text), spot, text)
            self.assertSpot(spot, FORMATS[sort][1], text)
        for text in ("table 1 1 2 -1,1,1,1 +0,0,0,0 ", "table 1 1 2 +0,0,0,0 -1,1,1,1 -1,1,1,1"):
            self.assertSpot(30, read_table, text)

    def test_rows_that_are_no_tables(self):
        for rows in (("+0,0,0,0", "-1,1,1,1"), ("+1,1,1,1", "+0,0,0,0"), ("+1,2,2,2", "+1,1,1,1", "+2,2,2,2"),
                     ("+2,1,1,1", "-1,1,1,1", "+2,2,2,1"), ("-0,0,0,0", "+1,1,1,1")):
            text = " ".join(["table", "1", "1", str(len(rows))] + list(rows))
            self.assertIsNone(wording.wrong_spot("table", text))
            self.assertSpot(len(text), read_table, text)
            self.assertSpot(len(text), read_any, text)

    def test_no_strings(self):
        for value in strangers():
            for function in [read for _, read in FORMATS.values()] + [read_book, read_any]:
                if not isinstance(value, str):
                    self.assertSpot(None, function, value)
                elif value or function not in (read_book, read_any):
                    self.assertSpot(0, function, value)

    def test_long_texts(self):
        choices = tuple([(one, x, y, two) for one in range(6) for x in range(4) for y in range(4) for two in range(6)])
        text = write_row(Mayrow(2, 2, 6, choices, ()))
        self.assertEqual(len(text), len("row 2 2 6 -") + 576 * 5)
        self.assertEqual(read_row(text).choices, choices)
        self.assertSpot(len(text) + 1, read_row, text + " 0000")
        self.assertSpot(4, read_row, "row " + "1" * 100000 + " 1")

    def test_wrong_arguments(self):
        for function, error, wrong in ((write_row, InvalidRow, wrong_rows()),
                                       (write_table, InvalidTable, wrong_tables()),
                                       (write_passes, InvalidPasses, wrong_passes()),
                                       (view, InvalidTable, wrong_tables()),
                                       (write_promise, InvalidPromise, WRONG + strangers()),
                                       (write_book, InvalidBook, [value for value in strangers()
                                                                  if type(value) is not Book])):
            for value in wrong:
                self.assertRaisesThis(error, None, function, value)

    def test_any_sort(self):
        for text in ("rows 1", "Row 1 1 1 0", " row 1 1 1 0", "view", "x", " ", "\n", "\nput", "take a", "row\n1 1 1 0",
                     "table\n", "within\na b", "-", "0"):
            self.assertSpot(0, read_any, text)
        for text, spot in (("row", 3), ("table", 5), ("passes 1", 8), ("within a", 8), ("told", 4), ("put", 3),
                           ("promise", 7), ("put a", 5), ("promise within", 14), ("promise\nput", 7),
                           ("put a row 1 1 1 0\n", 18)):
            self.assertSpot(spot, read_any, text)
        self.assertEqual((read_any(""), read_any(BOOK)), (Book(), read_book(BOOK)))

    def test_view(self):
        self.assertEqual(self.answer(view, widths_table([True] * 11 + [False])).split("\n")[9:],
                         [" 9* 10 10 10 10", "10* 11 11 11 11", "11  11 11 11 11"])
        for table in values_of("table"):
            lines = view(table).split("\n")
            self.assertEqual(len(lines), len(table))
            for state, (line, (last, nexts)) in enumerate(zip(lines, table.rows)):
                self.assertEqual((int(line[:2]), line[2] == "*", len(line)), (state, last, 3 + 3 * len(nexts)))
                self.assertEqual(tuple([int(line[at:at + 3]) for at in range(3, len(line), 3)]), nexts)


def is_least(text):
    """Whether the rows in the text of a table are those of a table."""
    words = text.split(" ")
    rows = tuple([(word[0] == "+", tuple(map(int, word[1:].split(",")))) for word in words[4:]])
    return Table.told(int(words[1]), int(words[2]), rows).rows == rows


class BooksTest(Spots):

    def books(self):
        """Books of all kinds."""
        yield from [Book(), filled(), read_book(WHOLE)]
        yield filled(dict(NAMED, two=TWO, big=SIXTY), [("within", "once", "free"), ("told", "two", (2,), 0),
                                                       ("ahead", "late", 1), ("most", "two", 99), ("most", "two", 1)])
        yield filled(dict({"abcdefghijk"[at]: random_row(at + 70) for at in range(11)}, z=COPY),
                     [("most", "z", 99 - at) for at in range(16)])

    def test_books_are_read_back(self):
        for book in self.books():
            text = write_book(book)
            self.assertIsNone(wording.book_spot(text))
            for function in (read_book, read_any):
                other = function(text)
                self.assertEqual((other, other.version, other.touched, other.judged), (book, 0, (), ()))
                self.assertEqual(write_book(other), text)
            self.assertEqual(len(text.split("\n")) if text else 0, len(book) + len(book.promises))

    def test_texts_of_books(self):
        book = filled({"free": FREE, "copy": COPY}, [("within", "copy", "free")])
        self.assertEqual((write_book(book), write_book(Book())), (BOOK, ""))
        book.do((("take_out", "free"), ("take_back", ("within", "copy", "free"))))
        self.assertEqual(write_book(book), "put copy row 1 1 1 0 0000 0110")

    def test_spoilt_books(self):
        counts = {"read": 0, "wrong": 0, "refused": 0}
        for text in wording.spoilt_texts(WHOLE, "02-1 ap\n"):
            spot = wording.book_spot(text)
            if spot is not None:
                counts["wrong"] += 1
                self.assertSpot(spot, read_book, text)
                continue
            try:
                self.assertEqual(write_book(read_book(text)), text)
                counts["read"] += 1
            except Refused as wrong:
                self.assertIn(write_promise(wrong.reason[1]), text)
                counts["refused"] += 1
        self.assertGreater(min(counts.values()), 10)

    def test_known_spots_of_books(self):
        copy, free, promise = BOOK.split("\n")
        for text, spot in (
                ("\n", 0), (BOOK + "\n", len(BOOK) + 1), ("\n" + BOOK, 0), (copy + "\n\n" + free, len(copy) + 1),
                (free + "\n" + copy, len(free) + 5), (copy + "\n" + copy, len(copy) + 5),
                (promise + "\n" + copy, len(promise) + 1), (copy + " ", len(copy) + 1),
                (BOOK + "\n" + promise, len(BOOK) + 9), (BOOK + "\n" + promise + " ", len(BOOK) + 9 + 17),
                ("put Copy row 1 1 1 0", 4), ("put copy raw 1 1 1 0", 9), ("put copy", 8), ("promise", 7), ("puts", 0),
                ("take copy", 0), ("put copy row 1 1 1", 18), ("put copy row 1 1 1\nput a", 18),
                (copy + "\nput d row 1 1 1 00", len(copy) + 17), ("promise within a b c", 19)):
            self.assertEqual(wording.book_spot(text), spot, text)
            self.assertSpot(spot, read_book, text)

    def test_limits(self):
        row = " row 1 1 1 0"
        twelve = "\n".join(["put " + name + row for name in "abcdefghijkl"])
        self.assertEqual(len(read_book(twelve)), 12)
        self.assertSpot(len(twelve) + 1, read_book, twelve + "\nput m" + row)
        self.assertSpot(len(twelve) + 1, read_book, twelve + "\nput a raw")
        sixteen = "put a" + row + "".join(["\npromise most a {}".format(number) for number in range(1, 17)])
        self.assertEqual(len(read_book(sixteen).promises), 16)
        self.assertSpot(len(sixteen) + 1, read_book, sixteen + "\npromise most a 17")
        # The seventeenth one is wrong also if it stands ahead already.
        self.assertSpot(len(sixteen) + 1, read_book, sixteen + "\npromise most a 16")

    def test_errors_of_the_book(self):
        big, bad = write_row(SIXTY_ONE), "row 1 1 1 - 0000"
        with self.assertRaises(TooMany) as caught:
            read_book(f"put a {write_row(SIXTY)}\nput b {big}\npromise answered z")
        self.assertEqual(caught.exception.most, 60)
        # A wrong word behind it is told first.
        self.assertSpot(len(f"put b {big}\npromise "), read_book, f"put b {big}\npromise answer b")
        for text, reason in (
                (f"put b {bad}\npromise answered b\npromise within b c", ("lacking", ("within", "b", "c"))),
                (f"put b {bad}\npromise answered b\npromise told b 2 0", ("shape", ("told", "b", (2,), 0))),
                (f"put b {bad}\npromise most b 0\npromise ahead b 1\npromise answered b",
                 ("broken", ("ahead", "b", 1), paper_against(("ahead", "b", 1), {"b": read_row(bad)})))):
            for function in (read_book, read_any):
                with self.assertRaises(Refused) as caught:
                    function(text)
                self.assertEqual(caught.exception.reason, reason)

    def test_a_promise_that_is_too_wide_to_be_judged(self):
        text = write_book(filled(RINGS)) + "\npromise within ring "
        for function in (read_book, read_any):
            self.assertEqual(function(text + "both").promises, (("within", "ring", "both"),))
            self.assertTooMany(200, function, text + "counter")

    def test_all_short_texts(self):
        for words in product(("put", "promise", "a", "row", "1", ""), repeat=3):
            text = " ".join(words)
            self.assertSpot(wording.book_spot(text), read_book, text)


if __name__ == "__main__":
    unittest.main()
