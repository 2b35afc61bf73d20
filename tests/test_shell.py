"""Points 16.1 to 16.7: a shell, its commands and its answers."""

import random
import unittest

from mayrows.ahead.games import least_look
from mayrows.book.books import Book
from mayrows.count.counts import count_answers, count_pairs
from mayrows.errors import InvalidBook, InvalidOperation, MayrowError, TooMany
from mayrows.grow.growth import growth
from mayrows.line.lines import keys
from mayrows.row.rows import Mayrow
from mayrows.table.ends import least_pair
from mayrows.table.tables import Table
from mayrows.table.within import parting, within_paper
from mayrows.text.formats import read_book, write_book, write_row
from mayrows.text.shell import Shell
from tests import speaking, wording
from tests.checking import Checked, strangers
from tests.samples import COPY, FAR, FREE, LATE, ODD, ONCE, SIXTY, SIXTY_ONE
from tests.test_books import EMPTY, SAME, filled
from tests.test_lines import SUM as SUM_TABLE
from tests.test_promises import COUNTERS, NAMED, RINGS, SLOW, TWO

SUM = SUM_TABLE.as_row()
WIDE = Mayrow(2, 2, 1, ((0, 0, 0, 0), (0, 3, 1, 0), (0, 2, 3, 0)), (0,))
MANY = dict(NAMED, two=TWO, odd=ODD, far=FAR, empty=EMPTY, wide=WIDE, sum=SUM, big=SIXTY)


def shell_of(rows=NAMED, promises=()):
    """A shell with a book with these rows and promises."""
    return Shell(filled(rows, promises))


def seen(shell):
    """All that can be seen of a shell, but the number of its lines."""
    book = shell.book()
    return ([(name, book[name]) for name in book], book.promises, shell.noted, shell.log)


class ExamplesTest(Checked):

    def test_examples(self):
        shell = Shell()
        for line, answer in (
                ("put copy row 1 1 1 0 0000 0110", "done"), ("put free row 1 1 1 0 0000 0100 0110", "done"),
                ("put copy row 1 1 1 0 0000 0110", "nothing"), ("is copy <= free", "yes"),
                ("is free <= copy", "no 1 0"), ("is copy = ^ copy", "yes"), ("ask free : 11", "4 00 01 10 .."),
                ("ask copy : -", "1 -"), ("count free : 2", "9"), ("grow free", "doubling"),
                ("grow free & copy", "most 1"), ("least free - copy", "1 0"), ("ask lost : 1", "unknown lost"),
                ("put copy row 1 1 1 x", "? 19"), ("ask free", "? 8"), ("lot", "lot"),
                ("put more row 1 1 1 0 0000", "noted 1"), ("promise within more copy", "noted 2"),
                ("undo 1", "not here"), ("end", "done"), ("promises", "within more copy"), ("names", "copy free more"),
                ("take copy", "refused lacking within more copy"), ("back answered copy", "unknown answered copy"),
                ("undo 9", "nothing to undo"), ("undo 1", "version 2"), ("names", "copy free"),
                ("put more row 1 1 1 0 0110 0100", "? 26")):
            self.assertEqual(shell(line), answer)
        self.assertEqual((shell.log[-1], len(shell), shell.noted), ("undo 1", 28, None))


class CommandsTest(Checked):

    def check_lines(self, shell, *pairs):
        """Run lines, and look at their answers."""
        for line, answer in pairs:
            self.assertEqual(shell(line), answer, line)

    def test_deeds(self):
        shell = Shell()
        self.check_lines(
            shell, ("names", "none"), ("promises", "none"), ("put a row 1 1 1 0 0000 0110", "done"),
            ("take b", "unknown b"), ("promise most a 1", "done"), ("promise most a 1", "nothing"),
            ("promise told a 01 0", "done"), ("promise told a - 0", "refused broken told a - 0"),
            ("promise told a 2 0", "refused shape told a 2 0"), ("promise alike a b", "refused lacking alike a b"),
            ("back most a 2", "unknown most a 2"), ("back told a - 1", "unknown told a - 1"),
            ("promises", "most a 1 ; told a 01 0"), ("back most a 1", "done"),
            ("take a", "refused lacking told a 01 0"), ("back told a 01 0", "done"), ("take a", "done"),
            ("take a", "unknown a"), ("put big " + write_row(SIXTY_ONE), "too many 60"),
            ("put big " + write_row(SIXTY), "done"), ("promise told big - 0", "too many 20"), ("names", "big"),
            ("show big", write_row(SIXTY)), ("show a", "unknown a"))
        self.assertEqual((shell.book(), shell.book().version, str(shell)),
                         (filled({"big": SIXTY}), 0, "shell: 1 rows, 0 promises, 24 lines"))

    def test_limits_of_the_book(self):
        shell = shell_of({name: COPY for name in "abcdefghijkl"})
        self.check_lines(shell, ("put m row 1 1 1 0", "too many 12"), *[(f"promise most a {at}", "done")
                                                                        for at in range(1, 17)])
        self.check_lines(shell, ("promise most a 17", "too many 16"), ("promise most a 16", "nothing"),
                         ("undo 17", "nothing to undo"), ("undo 16", "version 0"), ("promises", "none"),
                         ("names", "a b c d e f g h i j k l"), ("undo 1", "nothing to undo"))
        other = shell_of({"slow": SLOW, "two": COUNTERS})
        self.check_lines(other, ("promise most slow 99", "too many 200"), ("promise most two 99", "too many 2000"),
                         ("promise most slow 67", "refused broken most slow 67"))
        # The pairs of the ring that the counter has not are too wide.
        rings = shell_of(RINGS)
        self.check_lines(rings, ("promise within ring counter", "too many 200"), ("promises", "none"),
                         ("is ring <= counter", "too many 200"), ("is ring = counter", "no 0 0"),
                         ("is counter <= ring", "no 0 0"), ("is ring <= both", "yes"), ("is both <= ring", "no 1 1"),
                         ("promise within ring both", "done"),
                         ("promise alike ring both", "refused broken alike ring both"),
                         ("put both " + write_row(RINGS["counter"]), "too many 200"))

    def test_lots(self):
        shell = shell_of()
        before = seen(shell)
        self.check_lines(shell, ("end", "not here"), ("drop", "not here"), ("lot", "lot"), ("lot", "not here"),
                         ("undo 0", "not here"), ("undo 200", "not here"), ("end", "nothing"), ("end", "not here"),
                         ("lot", "lot"), ("drop", "dropped 0"), ("drop", "not here"), ("lot", "lot"))
        self.assertEqual((shell.noted, seen(shell)[:2], shell.log), (0, before[:2], ()))
        # Nothing of a deed is asked before the end.
        self.check_lines(shell, ("take lost", "noted 1"), ("back most lost 1", "noted 2"),
                         ("put big " + write_row(SIXTY_ONE), "noted 3"), ("names", "copy free late once"),
                         ("ask lost : 0", "unknown lost"), ("drop now", "? 5"), ("take", "? 4"))
        self.assertEqual(shell.noted, 3)
        self.check_lines(shell, ("end", "unknown lost"), ("end", "not here"), ("lot", "lot"),
                         ("put big " + write_row(SIXTY_ONE), "noted 1"), ("end", "too many 60"), ("lot", "lot"),
                         ("promise answered copy", "noted 1"), ("put copy row 1 1 1 -", "noted 2"),
                         ("end", "refused broken answered copy"), ("drop", "not here"), ("lot", "lot"),
                         ("take copy", "noted 1"), ("drop", "dropped 1"))
        self.assertEqual(seen(shell), before)
        # A lot that changes nothing, and one that does.
        self.check_lines(shell, ("lot", "lot"), ("put copy " + write_row(COPY), "noted 1"), ("end", "nothing"),
                         ("lot", "lot"), ("take copy", "noted 1"), ("put new row 1 1 1 0", "noted 2"),
                         ("promise most new 0", "noted 3"), ("end", "refused broken most new 0"), ("lot", "lot"),
                         ("take copy", "noted 1"), ("put new row 1 1 1 0", "noted 2"),
                         ("promise most new 1", "noted 3"), ("end", "done"), ("names", "free late new once"),
                         ("undo 1", "version 0"))
        self.assertEqual(shell.log, ("lot", "take copy", "put new row 1 1 1 0", "promise most new 1", "end", "undo 1"))
        self.assertEqual(seen(shell)[:2], before[:2])

    def test_noted_deeds_up_to_forty(self):
        shell = shell_of()
        shell("lot")
        lines = [f"put a row 1 1 1 {'0' if at % 2 else '-'}" for at in range(40)]
        self.assertEqual([shell(line) for line in lines], [f"noted {at}" for at in range(1, 41)])
        self.check_lines(shell, ("take a", "too many 40"), ("put a row 1 1 1 -", "too many 40"), ("put A", "? 4"))
        self.assertEqual(shell.noted, 40)
        self.assertEqual((shell("end"), shell.log, shell("show a")), ("done", ("lot", *lines, "end"), "row 1 1 1 0"))
        shell("lot")
        for line in lines:
            shell(line)
        self.assertEqual((shell("take a"), shell("drop"), shell.noted), ("too many 40", "dropped 40", None))

    def test_undo(self):
        shell = shell_of()
        self.check_lines(shell, ("undo 0", "version 0"), ("take copy", "done"), ("take late", "done"),
                         ("undo 3", "nothing to undo"), ("undo 0", "version 2"), ("undo 1", "version 1"),
                         ("names", "free late once"), ("undo 200", "nothing to undo"), ("undo 1", "version 0"),
                         ("undo 201", "? 5"), ("undo 00", "? 5"), ("undo -1", "? 5"), ("undo", "? 4"))
        self.assertEqual(shell.log, ("take copy", "take late", "undo 1", "undo 1"))

    def test_questions_about_tables(self):
        shell = shell_of(MANY)
        tables = {name: Table.of(row) for name, row in MANY.items()}
        for name, table in tables.items():
            try:
                expected = " ".join([str(part) for part in growth(table)])
            except TooMany as wrong:
                expected = f"too many {wrong.most}"
            self.assertEqual(shell(f"grow {name}"), expected)
            try:
                look = least_look(table)
                expected = "none" if look is None else str(look)
            except TooMany as wrong:
                expected = f"too many {wrong.most}"
            self.assertEqual(shell(f"look {name}"), expected)
            pair = least_pair(table)
            self.assertEqual(shell(f"least {name}"), "none" if pair is None
                             else " ".join([text or "-" for text in pair]))
            try:
                expected = " ".join(["".join(map(str, key)) or "-" for key in keys(table)])
            except TooMany as wrong:
                expected = f"too many {wrong.most}"
            self.assertEqual(shell(f"keys {name}"), expected)
            for width in (0, 1, 2, 200):
                self.assertEqual(shell(f"count {name} : {width}"), str(count_pairs(table, width)))
            for question in ("-", "0", "1", "01", "11", "0110", "3", "30", "0" * 200):
                text = question.strip("-")
                if set(text) - set("0123"[:2 ** table.reads]):
                    self.assertEqual(shell(f"ask {name} : {question}"), "wrong")
                    continue
                many = count_answers(table, text)
                if many < 200:
                    answers = [answer or "-" for answer in Mayrow.answers(MANY[name], text)]
                    self.assertEqual(shell(f"ask {name} : {question}"),
                                     " ".join([str(many)] + answers[:3] + [".."] * (many > 3)))
        self.check_lines(shell, ("look copy", "0"), ("look late", "1"), ("look odd", "none"),
                         ("look big", "too many 192"), ("grow big", "too many 12"), ("grow once", "power 1"),
                         ("grow empty", "most 0"), ("least empty", "none"), ("least odd", "0 0"), ("least copy", "- -"),
                         ("keys sum", "01 02 12"), ("keys empty", "-"), ("keys free", "01"), ("keys copy", "0 1"),
                         ("keys big", "too many 20"), ("ask empty : 1", "0"), ("ask once : 11", "3 00 01 10"),
                         ("ask once : 111", "4 000 001 010 .."),
                         ("count free : 0", "1"), ("count free : 201", "? 13"), ("ask copy : 2", "wrong"),
                         ("ask two : 2", "0"), ("ask copy : 4", "? 11"), ("ask copy : " + "0" * 201, "? 11"),
                         ("ask copy :", "? 10"), ("ask copy 0", "? 9"))

    def test_very_many_answers(self):
        expected = [str(2 ** 200), "0" * 200, "0" * 199 + "1", "0" * 198 + "10", ".."]
        self.assertEqual(shell_of()("ask free : " + "1" * 200), " ".join(expected))

    def test_comparisons(self):
        shell = shell_of(dict(MANY, same=SAME))
        tables = {name: Table.of(row) for name, row in dict(MANY, same=SAME).items()}
        for one in tables:
            for other in tables:
                a, b = tables[one], tables[other]
                for sign in ("=", "<="):
                    if (a.reads, a.writes) != (b.reads, b.writes):
                        expected = "wrong"
                    elif sign == "=":
                        pair = parting(a, b)
                        expected = "yes" if pair is None else " ".join(["no"] + [text or "-" for text in pair])
                    else:
                        paper = within_paper(a, b)
                        expected = "yes" if paper[0] == "within" else " ".join(["no"] + [text or "-"
                                                                                         for text in paper[1:]])
                    self.assertEqual(shell(f"is {one} {sign} {other}"), expected)
        self.check_lines(shell, ("is copy = same", "yes"), ("is copy <= empty", "no - -"), ("is empty <= copy", "yes"),
                         ("is copy = empty", "no - -"), ("is copy = two", "wrong"),
                         ("is ( copy | free ) = free", "yes"), ("is ^ ( copy > free ) <= ^ free > ^ copy", "yes"))

    def test_terms(self):
        shell = shell_of(MANY)
        tables = {name: Table.of(row) for name, row in MANY.items() if name != "big"}
        for text in ("copy | free & once", "( copy | free ) & once", "copy | ( free & once )", "~ copy & free",
                     "~ ( copy & free )", "^ late", "^ ~ ^ late", "~ ^ ( late | copy ) - free", "late > late > late",
                     "late > ( late > late )", "wide - wide", "two > copy", "two > ^ two", "^ two > two",
                     "free - copy - once", "free - ( copy - once )", "( ( ( copy ) ) )", "late > late | copy",
                     "late > ( late | copy )", "wide > ^ wide & wide", "sum > late"):
            table = speaking.table_of(speaking.term_of(text), tables)
            self.assertEqual(shell(f"is {text} = {text}"), "yes", text)
            self.assertEqual([shell(f"count {text} : {width}") for width in range(5)],
                             [str(count_pairs(table, width)) for width in range(5)])
            pair = least_pair(table)
            self.assertEqual(shell(f"least {text}"), "none" if pair is None else " ".join([one or "-" for one in pair]))
        self.assertNotEqual(shell("is copy | free & once = copy | ( free & once )"), "yes")

    def test_errors_in_their_order(self):
        shell = shell_of(MANY)
        self.check_lines(
            shell, ("grow copy | two", "wrong"), ("grow copy | two | lost", "unknown lost"),
            ("is copy | two = lost", "unknown lost"), ("is lost | a = b", "unknown lost"),
            ("ask copy | lost : 3", "unknown lost"), ("count copy > wide : 3", "wrong"),
            ("is copy = big | two | lost", "unknown lost"), ("keys big | big", "too many 20"),
            ("grow big | copy & two", "too many 60"), ("grow copy & two | ( big | free )", "wrong"),
            ("grow ( big | free ) | ( copy & two )", "too many 60"), ("grow copy | ( big | free ) | two",
                                                                      "too many 60"),
            ("is copy & two = big | free", "wrong"), ("is big | free = copy & two", "too many 60"),
            ("show lost", "unknown lost"))

    def test_unlike_kinds_of_answers(self):
        found = set()
        shell = shell_of(dict(NAMED, odd=ODD, empty=EMPTY, two=TWO, slow=SLOW))
        for line in ("put new row 1 1 1 0", "take new", "take new", "lot", "take a", "drop", "end", "undo 1", "undo 99",
                     "names", "promises", "show copy", "grow copy", "grow free", "grow once", "look copy", "look odd",
                     "least copy", "least empty", "keys copy", "ask copy : 0", "ask free : 11", "count copy : 3",
                     "is copy = copy", "is copy = free", "is copy <= free", "promise answered empty",
                     "promise most slow 99", "grow copy | two", "back most copy 1", "x"):
            found.add(shell(line).split(" ")[0])
        self.assertLessEqual({"done", "unknown", "lot", "noted", "dropped", "not", "version", "nothing", "most",
                              "doubling", "power", "none", "yes", "no", "refused", "too", "wrong", "?", "row"}, found)


class LinesTest(Checked):

    def test_wrong_lines(self):
        shell = shell_of(MANY)
        before = seen(shell)
        lines = ["", " ", "x", "Put", "names ", " names", "names  promises", "promises all", "lots", "end x", "drop 1",
                 "undo", "undo 1 1", "put", "put a", "put a ", "put A row 1 1 1 0", "put a row", "put a row 1 1 1 0 ",
                 "put a row 1 1 1 0 0000 0000", "take", "take a b", "take 1", "promise", "promise within a",
                 "promise within a b c", "back", "back told a 1 ", "show", "show a b", "grow", "grow |", "grow copy |",
                 "grow copy copy", "grow ( copy", "grow ( copy ) )", "grow ( )", "grow ~", "grow ^ ~ (",
                 "grow copy |  free", "grow copy < free", "grow copy = free", "ask", "ask copy", "ask copy :",
                 "ask copy : 0 1", "ask copy : x", "ask copy : --", "ask : 0", "count copy : 01", "count copy : -",
                 "count copy : 200 ", "is", "is copy", "is copy =", "is copy = ", "is copy < free",
                 "is copy = free = late", "is copy <= ( free", "is ( copy = free )", "keys ( copy ) free",
                 "look late )", "grow copy\tfree", "grow abcdefghi", "grow (copy)", "grow copy|free", "grow ~copy",
                 "take a\\"]
        for line in lines:
            if "\t" in line:
                self.assertRaisesThis(InvalidOperation, None, shell, line)
                continue
            spot = speaking.wrong_spot(line)
            self.assertEqual(shell(line), f"? {spot}", line)
            self.assertIsNotNone(spot)
        self.assertEqual(seen(shell), before)

    def test_known_spots(self):
        shell = shell_of()
        for line, spot in (("", 0), (" names", 0), ("names ", 6), ("names  ", 6), ("put copy  row 1 1 1 0", 9),
                           ("put copy row 1 1", 16), ("put copy row 1 1 ", 17), ("put copy row 1 1 1 0 0000 0000", 26),
                           ("promise told a 10 0", 15), ("grow ( copy | free", 18), ("grow ( copy ] free )", 12),
                           ("grow copy ) ", 10), ("is copy => free", 8), ("ask free", 8), ("back most a 100", 12)):
            self.assertEqual((shell(line), speaking.wrong_spot(line)), (f"? {spot}", spot))

    def test_spoilt_lines(self):
        counts = {True: 0, False: 0}
        for text in ("put new row 1 1 2 01 0000 0111", "take copy", "promise told copy 01 1", "back most once 3", "lot",
                     "end", "drop", "undo 12", "names", "promises", "show copy", "grow ~ copy | ( once & free )",
                     "look ^ late", "least copy - ( free )", "keys free", "ask copy : 01", "ask once | copy : -",
                     "count ( free ) : 20", "is copy = ^ free", "is ( copy | free ) <= once"):
            for line in wording.spoilt_texts(text, "012-+,: abz|(~"):
                if set(line) - set("".join(map(chr, range(32, 127)))):
                    continue
                shell = shell_of({"copy": COPY, "free": FREE, "once": ONCE,
                                  "late": LATE}) if counts[False] % 50 == 0 else shell
                spot = speaking.wrong_spot(line)
                counts[spot is None] += 1
                answer = shell(line)
                if spot is None:
                    self.assertNotEqual(answer[0], "?", line)
                else:
                    self.assertEqual(answer, f"? {spot}", line)
        self.assertGreater(min(counts.values()), 200)

    def test_terms_of_forty_words(self):
        shell = shell_of()
        forty = "~ " * 39 + "copy"
        self.assertEqual(shell(f"is {forty} = ~ copy"), "yes")
        self.assertEqual(shell(f"is copy = {forty} "), f"? {len('is copy =  ' + forty)}")
        self.assertEqual(shell(f"ask {forty} : 1"), "1 0")
        # The forty-first word is wrong, whatever it is, but a word behind the term is none of it.
        self.assertEqual(shell(f"grow ~ {forty}"), f"? {len('grow ~ ' + '~ ' * 39)}")
        self.assertEqual(shell(f"grow {forty} | copy"), f"? {len('grow ' + forty + ' ')}")
        self.assertEqual(shell("grow " + "~ " * 40 + "copy"), f"? {len('grow ' + '~ ' * 40)}")
        self.assertEqual(shell("grow " + "~ " * 39 + "~"), f"? {len('grow ' + '~ ' * 39 + '~')}")
        terms = " | ".join(["copy"] * 20)
        self.assertEqual((len(terms.split(" ")), shell(f"is {terms} | free = free")),
                         (39, f"? {len('is ' + terms + ' | ')}"))
        self.assertEqual(shell(f"is {terms} = {terms}"), "yes")
        brackets = "( " * 13 + "copy" + " )" * 13
        self.assertEqual(len(brackets.split(" ")), 27)
        self.assertEqual(shell(f"is {brackets} | {brackets[26:-26]} = copy"), "yes")
        self.assertEqual(shell("grow " + "( " * 20 + "copy" + " )" * 20),
                         f"? {len('grow ' + '( ' * 20 + 'copy' + ' )' * 19 + ' ')}")
        for line in (f"grow {forty} )", f"grow {forty} x", f"is {forty} <= {forty}", f"is {forty} <= {forty} |",
                     f"ask ( {forty} ) : 1"):
            spot = speaking.wrong_spot(line)
            self.assertEqual(shell(line), "yes" if spot is None else f"? {spot}")

    def test_wide_lines(self):
        choices = tuple([(one, x, y, two) for one in range(6) for x in range(4) for y in range(4) for two in range(6)])
        line = "put abcdefgh " + write_row(Mayrow(2, 2, 6, choices, (0, 1, 2, 3, 4, 5)))
        shell = Shell()
        self.assertEqual((shell(line), len(shell.book())), ("done", 1))
        self.assertEqual(shell("x" * 3000), "? 0")
        before = seen(shell), len(shell)
        for value in ("x" * 3001, "names" + " " * 2996, "name\n", "\tnames", "names\x7f", "n\x1f", "\u00e4", None, 1,
                      b"names", ["names"], True):
            self.assertRaisesThis(InvalidOperation, None, shell, value)
        for value in strangers():
            if type(value) is not str or set(value) & set("\n\t") or len(value) > 3000:
                self.assertRaisesThis(InvalidOperation, None, shell, value)
        self.assertEqual((seen(shell), len(shell)), before)
        self.assertEqual(shell("".join([chr(code) for code in range(32, 127)])), "? 0")


class ShellTest(Checked):

    def test_at_first(self):
        shell = Shell()
        self.assertEqual((seen(shell), len(shell), str(shell)), (([], (), None, ()), 0,
                                                                 "shell: 0 rows, 0 promises, 0 lines"))
        self.assertEqual((Shell(None).book(), Shell(book=Book()).book()), (Book(), Book()))
        for value in strangers():
            if value is not None and not isinstance(value, Book):
                self.assertRaisesThis(InvalidBook, None, Shell, value)
        for name in ("noted", "log"):
            self.assertRaises(AttributeError, setattr, shell, name, None)
        self.assertRaises(TypeError, iter, shell)

    def test_books_go_on_by_themselves(self):
        book = filled(promises=[("answered", "copy")])
        shell = Shell(book)
        self.assertEqual((shell.book(), shell("undo 1")), (book, "nothing to undo"))
        shell("take free")
        self.assertEqual((book.names, book.version), (("copy", "free", "late", "once"), 5))
        book.take_out("late")
        self.assertEqual(shell("names"), "copy late once")
        told = shell.book()
        told.take_out("once")
        self.assertEqual((shell("names"), shell.book().version, shell.book() == shell.book()),
                         ("copy late once", 0, True))
        lot = book.lot()
        self.assertEqual((Shell(book)("take once"), lot.is_open), ("done", True))

    def test_run_all(self):
        shell = Shell()
        lines = ["put a row 1 1 1 0", "names", "x", "take b", "take a"]
        running = shell.run_all(*lines)
        self.assertEqual(len(shell), 0)
        told = []
        for at, answer in enumerate(running):
            told.append(answer)
            # Lines are run as they are asked for.
            self.assertEqual(len(shell), at + 1)
        self.assertEqual(told, ["done", "a", "? 0", "unknown b", "done"])
        self.assertEqual((list(shell.run_all()), list(shell.run_all("names"))), ([], ["none"]))
        for wrong in (None, "x" * 3001, "a\n", 1):
            for at in range(3):
                values = lines[:at] + [wrong] + lines[at:]
                self.assertRaisesThis(InvalidOperation, None, lambda: next(shell.run_all(*values)))
        self.assertEqual((len(shell), shell("names")), (6, "none"))
        # Nothing is raised before the first answer is asked for.
        shell.run_all(None)

    def test_questions_change_nothing_but_the_number_of_lines(self):
        for is_open in (False, True):
            shell = shell_of(MANY, [("answered", "copy")])
            shell("take odd")
            if is_open:
                shell("lot")
                shell("take far")
            before, many = seen(shell), len(shell)
            lines = ["names", "promises", "show copy", "grow copy", "look late", "least copy", "keys free",
                     "ask free : 11", "count copy : 3", "is copy = free", "is copy <= free", "x", "", "undo", "put a",
                     "undo 0" if not is_open else "undo 1", "grow lost", "ask copy : 3", "grow big"]
            for at, line in enumerate(lines):
                shell(line)
                self.assertEqual((seen(shell), len(shell)), (before, many + at + 1))

    def test_logs_and_texts(self):
        kept = 0
        for seed in range(40):
            chance = random.Random(seed)
            shell = Shell()
            for _ in range(60):
                shell(random_line(chance))
            if shell.noted is not None:
                shell("drop")
            other = Shell()
            answers = list(other.run_all(*shell.log))
            self.assertNotIn("nothing", answers)
            self.assertEqual((other.book(), other.log, other.noted), (shell.book(), shell.log, None))
            # Both go on alike, also with `undo`.
            lines = [random_line(chance) for _ in range(30)] + ["drop"] + [f"undo {many}"
                                                                           for many in (1, 3, 200)] + ["undo 1"] * 5
            self.assertEqual([shell(line) for line in lines], [other(line) for line in lines])
            self.assertEqual(seen(shell), seen(other))
            third = Shell()
            text = write_book(shell.book())
            list(third.run_all("lot", *(text.split("\n") if text else []), "end"))
            self.assertEqual((third.book(), read_book(text)), (shell.book(), shell.book()))
            kept += len(shell.log) > 10
        self.assertGreater(kept, 20)

    def test_equal_calls(self):
        for line in ("grow copy", "names", "promises", "ask free : 01", "x", "undo 0"):
            one, other = shell_of(), shell_of()
            self.assertEqual((one(line), one(line)), (other(line), other(line)))
            self.assertEqual(one(line), other(line))

    def test_no_error_gets_out(self):
        shell = shell_of(MANY)
        for seed in range(400):
            try:
                self.assertIsInstance(shell(random_line(random.Random(seed))), str)
            except MayrowError as wrong:
                self.fail(repr(wrong))


def random_line(chance):
    """A line of any kind about a few names."""
    name, other = chance.choice(("a", "b", "c")), chance.choice(("a", "b", "c"))
    row = write_row(chance.choice((COPY, FREE, LATE, ONCE, SAME, TWO, EMPTY)))
    promise = chance.choice((f"within {name} {other}", f"alike {name} {other}", f"answered {name}",
                             f"most {name} {chance.randint(0, 3)}", f"told {name} 0 1", f"told {name} - 1",
                             f"ahead {name} {chance.randint(0, 1)}"))
    return chance.choice((f"put {name} {row}",) * 4 + (f"take {name}", f"promise {promise}", f"promise {promise}",
                                                       f"promise {promise}", f"back {promise}", "lot", "end", "end",
                                                       "drop", f"undo {chance.randint(0, 2)}", "names",
                                                       f"grow {name} | {other}", f"is {name} = {other}",
                                                       f"ask {name} : 01", f"least ~ {name}"))


if __name__ == "__main__":
    unittest.main()
