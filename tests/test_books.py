"""Points 14.5 to 14.8: books, deeds, lots, and their versions."""

import copy
import random
import unittest

from mayrows.book.books import MAX_DEEDS, Book, Lot
from mayrows.book.promises import does_fit, names_of, paper_against
from mayrows.errors import (InvalidNumber, InvalidOperation, InvalidPromise, InvalidRow, NothingToUndo, Refused,
                            TooMany, UnknownName)
from mayrows.row.rows import Mayrow
from mayrows.table.tables import Table
from tests import promising
from tests.checking import Checked, strangers, wrong_numbers, wrong_rows
from tests.samples import COPY, FAR, FREE, HALF, LATE, ODD, ONCE, SIXTY, SIXTY_ONE
from tests.test_promises import COUNTERS, NAMED, RINGS, SLOW, TWO, WRONG

# Another row with the table of COPY.
SAME = Mayrow(1, 1, 2, ((0, 0, 0, 1), (0, 1, 1, 1), (1, 0, 0, 0), (1, 1, 1, 0)), (0, 1))
EMPTY = Mayrow(1, 1, 1, (), ())
NAMES = [value for value in strangers() if not promising.is_name(value)] + ["A", "abcdefghi", "a b", ("a",)]
PROMISES = WRONG + strangers()


def filled(rows=NAMED, promises=()):
    """A book with these rows and promises."""
    book = Book()
    for name, row in rows.items():
        book.put(name, row)
    for promise in promises:
        book.promise(promise)
    return book


def look_of(book):
    """All that can be seen of a book."""
    rows = [(name, book[name], book.table_of(name)) for name in book]
    versions = [(book.at(version).promises, [(name, book.at(version)[name]) for name in book.at(version)])
                for version in range(book.version + 1)]
    return (rows, book.names, book.promises, book.version, book.touched, book.judged, str(book), len(book), versions)


class ExamplesTest(Checked):

    def test_examples(self):
        book = Book()
        self.assertEqual([book.put("copy", COPY), book.put("free", FREE), book.promise(("within", "copy", "free")),
                          book.promise(("answered", "copy")), book.version, book.touched], [True] * 4 + [4, ()])
        self.assertEqual([book.follows(("answered", "free")), book.follows(("most", "copy", 1)), book.put("copy", COPY),
                          book.judged, str(book)],
                         [True, False, False, (("answered", "copy"),), "book of 2 rows, 2 promises"])
        with self.assertRaises(Refused) as caught:
            book.put("free", ONCE)
        self.assertEqual(caught.exception.reason, ("broken", ("within", "copy", "free"), ("pair", "11", "11")))
        deeds = (("put", "free", ONCE), ("take_back", ("within", "copy", "free")))
        self.assertEqual([book.would(deeds[:1]), book.would(deeds), book.do(deeds), book.touched, book.version],
                         [(("broken", ("within", "copy", "free")),), (), True, ("free",), 5])
        self.assertEqual([book.undo(), book["free"] == FREE, book.at(2).promises, book.would((("take_out", "copy"),))],
                         [4, True, (), (("lacking", ("within", "copy", "free")), ("lacking", ("answered", "copy")))])


class BookTest(Checked):

    def check_refused(self, book, error, told, function, *values):
        """The call raises just this error with what it tells, and the book stays as it is."""
        before = look_of(book)
        with self.assertRaises(error) as caught:
            function(*values)
        self.assertIs(type(caught.exception), error)
        kept = {UnknownName: "wanted", TooMany: "most", Refused: "reason", NothingToUndo: "many",
                InvalidNumber: "given"}
        if error in kept:
            self.assertEqual(getattr(caught.exception, kept[error]), told)
        self.assertEqual(look_of(book), before)

    def test_at_first(self):
        book = Book()
        self.assertEqual(look_of(book), ([], (), (), 0, (), (), "book of 0 rows, 0 promises", 0, [((), [])]))
        self.assertEqual((list(book), book == Book(), book != Book()), ([], True, False))

    def test_rows_and_names(self):
        book = filled({"late": LATE, "copy": COPY, "z": FREE, "abc": ONCE})
        self.assertEqual((book.names, list(book), len(book)), (("abc", "copy", "late", "z"),
                                                               ["abc", "copy", "late", "z"], 4))
        self.assertEqual([book[name] for name in book], [ONCE, COPY, LATE, FREE])
        self.assertEqual(book.table_of("abc"), Table.of(ONCE))
        for value in strangers() + ["abcd", "A", ("abc",), ["abc"], {"abc": 0}]:
            self.assertIs(value in book, False)
            for function in (book.__getitem__, book.table_of):
                self.check_refused(book, UnknownName, value, function, value)
        self.assertIs("abc" in book, True)
        for name in ("names", "promises", "version", "touched", "judged"):
            self.assertRaises(AttributeError, setattr, book, name, None)

    def test_equality(self):
        one, other = filled(), filled(dict(list(NAMED.items())[::-1]))
        self.assertTrue(one == other and not one != other)
        other.put("copy", SAME)
        self.assertNotEqual(one, other)
        self.assertEqual(other.touched, ())
        other.undo()
        self.assertEqual(one, other)
        other.promise(("answered", "copy"))
        self.assertNotEqual(one, other)
        one.promise(("answered", "copy"))
        self.assertEqual(one, other)
        one.promise(("answered", "free"))
        one.promise(("answered", "late"))
        other.promise(("answered", "late"))
        other.promise(("answered", "free"))
        # The order of the promises counts.
        self.assertNotEqual(one, other)
        for value in strangers() + [NAMED, Table.of(COPY)]:
            self.assertEqual(one == value, False)

    def test_deeds_that_change_nothing(self):
        book = filled(promises=[("answered", "copy"), ("most", "late", 1)])
        before = look_of(book)
        self.assertIs(book.put("copy", Mayrow(1, 1, 1, COPY.choices[::-1], (0,))), False)
        self.assertIs(book.promise(("answered", "copy")), False)
        self.assertIs(book.do((("put", "late", LATE), ("promise", ("most", "late", 1)))), False)
        self.assertIs(book.do((("take_out", "free"), ("put", "free", FREE))), False)
        self.assertIs(book.do((("put", "new", FREE), ("take_out", "new"))), False)
        # A promise that is taken back and made again stands behind the other one.
        self.assertEqual(look_of(book), before)
        self.assertIs(book.do((("take_back", ("answered", "copy")), ("promise", ("answered", "copy")))), True)
        self.assertEqual((book.promises, book.judged), ((("most", "late", 1), ("answered", "copy")), ()))

    def test_touched_and_judged(self):
        promises = [("answered", "copy"), ("within", "copy", "free"), ("most", "late", 1), ("alike", "late", "late")]
        book = filled(promises=promises)
        self.assertEqual((book.touched, book.judged), ((), (promises[3],)))
        book.put("new", LATE)
        self.assertEqual((book.touched, book.judged), (("new",), ()))
        book.put("copy", SAME)
        self.assertEqual((book.touched, book.judged), ((), ()))
        book.do((("put", "copy", HALF), ("put", "late", COPY), ("take_back", ("answered", "copy"))))
        self.assertEqual((book.touched, book.judged), (("copy", "late"), tuple(promises[1:])))
        book.do((("put", "copy", ONCE), ("promise", ("told", "new", (0,), 1)), ("take_out", "once"),
                 ("put", "copy", HALF)))
        self.assertEqual((book.touched, book.judged), (("once",), (("told", "new", (0,), 1),)))
        self.assertEqual((book.undo(2), book.touched, book.judged), (len(NAMED) + 6, ("copy", "late", "once"), ()))
        self.assertEqual((book.undo(0), book.touched), (len(NAMED) + 6, ("copy", "late", "once")))
        book.promise(("answered", "once"))
        self.assertEqual((book.touched, book.judged), ((), (("answered", "once"),)))
        book.undo(1)
        self.assertEqual((book.touched, book.judged), ((), ()))

    def test_names_up_to_twelve(self):
        book = filled({name: COPY for name in "abcdefghijkl"})
        self.assertEqual(len(book), 12)
        self.check_refused(book, TooMany, 12, book.put, "m", COPY)
        # Too many names are told ahead of a row with too large a table.
        self.check_refused(book, TooMany, 12, book.put, "m", SIXTY_ONE)
        self.check_refused(book, InvalidRow, None, book.put, "m", None)
        self.check_refused(book, TooMany, 12, book.do, (("put", "m", COPY), ("take_out", "m")))
        self.check_refused(book, TooMany, 12, book.would, (("put", "m", COPY), ("take_out", "m")))
        self.assertIs(book.put("l", FREE), True)
        self.assertIs(book.do((("take_out", "a"), ("put", "m", COPY))), True)
        self.check_refused(book, TooMany, 60, book.put, "l", SIXTY_ONE)
        self.assertIs(book.put("l", SIXTY), True)

    def test_promises_up_to_sixteen(self):
        promises = [("most", "copy", number) for number in range(1, 17)]
        book = filled(promises=promises)
        self.assertEqual(len(book.promises), 16)
        self.check_refused(book, TooMany, 16, book.promise, ("most", "copy", 17))
        self.check_refused(book, TooMany, 16, book.promise, ("most", "lost", 17))
        self.assertIs(book.promise(("most", "copy", 16)), False)
        self.assertIs(book.do((("take_back", promises[0]), ("promise", ("most", "copy", 17)))), True)

    def test_deeds_up_to_forty(self):
        deeds = tuple([("put", "a", (COPY, FREE)[at % 2]) for at in range(MAX_DEEDS)])
        book = Book()
        self.assertEqual((book.do(deeds), book["a"], book.version), (True, FREE, 1))
        for value in (deeds + deeds[:1], (), None, list(deeds)):
            self.check_refused(book, InvalidOperation, None, book.do, value)
            self.check_refused(book, InvalidOperation, None, book.would, value)

    def test_what_is_not_there(self):
        book = filled(promises=[("answered", "copy")])
        self.check_refused(book, UnknownName, "lost", book.take_out, "lost")
        self.check_refused(book, UnknownName, ("answered", "free"), book.take_back, ("answered", "free"))
        for function in (book.do, book.would):
            self.check_refused(book, UnknownName, "new", function, (("put", "new", COPY), ("take_out", "new"),
                                                                   ("take_out", "new"), ("put", "b", SIXTY_ONE)))
            self.check_refused(book, TooMany, 60, function, (("put", "b", SIXTY_ONE), ("take_out", "new")))
            self.check_refused(book, UnknownName, ("most", "copy", 1), function, (("take_back", ("most", "copy", 1)),))

    def test_refused(self):
        promises = [("within", "copy", "free"), ("most", "late", 1), ("told", "once", (0, 1), 0), ("ahead", "late", 1)]
        book = filled(promises=promises)
        # Lacking rows are told ahead of unlike shapes, and these ahead of broken promises, each in their order.
        for deeds, reason in (
                ((("put", "late", FREE), ("put", "free", TWO), ("take_out", "once")), ("lacking", promises[2])),
                ((("take_out", "late"), ("take_out", "copy")), ("lacking", promises[0])),
                ((("put", "late", FREE), ("put", "free", TWO)), ("shape", promises[0])),
                ((("put", "late", FREE), ("promise", ("told", "copy", (0,), 2))), ("shape", ("told", "copy", (0,), 2))),
                ((("put", "late", FREE),), ("broken", promises[1], ("question", "1"))),
                ((("promise", ("answered", "copy")), ("promise", ("most", "free", 3))),
                 ("broken", ("most", "free", 3), ("question", "11"))),
                ((("promise", ("alike", "copy", "new")),), ("lacking", ("alike", "copy", "new")))):
            self.check_refused(book, Refused, reason, book.do, deeds)
            self.assertIn(reason[:2], book.would(deeds))
        self.assertEqual(book.would((("put", "late", FREE), ("put", "free", TWO), ("take_out", "once"))),
                         (("shape", promises[0]), ("broken", promises[1]), ("lacking", promises[2])))
        paper = paper_against(("ahead", "late", 1), dict(NAMED, late=ODD))
        self.check_refused(book, Refused, ("broken", promises[3], paper), book.put, "late", ODD)
        self.assertEqual(book.would((("put", "late", ODD),)), (("broken", promises[3]),))
        # Within a lot promises can be broken for a while.
        self.assertIs(book.do((("put", "late", FREE), ("put", "late", COPY))), True)

    def test_too_many_while_judging(self):
        book = filled(dict(NAMED, slow=SLOW, two=COUNTERS), [("answered", "copy")])
        for promise, most in ((("most", "slow", 99), 200), (("most", "two", 99), 2000)):
            self.check_refused(book, TooMany, most, book.promise, promise)
            self.check_refused(book, TooMany, most, book.would, (("promise", promise),))
        both = (("promise", ("most", "slow", 99)), ("promise", ("most", "two", 99)))
        self.check_refused(book, TooMany, 200, book.do, both)
        self.check_refused(book, TooMany, 2000, book.do, both[::-1])
        # The ring is not within the counter, but no pair that shows it can be returned.
        book = filled(dict(RINGS, new=RINGS["both"]), [("within", "ring", "both"), ("within", "ring", "new")])
        deeds = (("promise", ("within", "ring", "counter")), ("put", "both", RINGS["counter"]))
        for function in (book.do, book.would):
            for deed in deeds:
                self.check_refused(book, TooMany, 200, function, (deed,))
        self.check_refused(book, TooMany, 200, book.promise, deeds[0][1])
        self.check_refused(book, TooMany, 200, book.put, "new", RINGS["counter"])
        # Of two promises the first one tells the error; `would` goes on behind those that are broken.
        worse = ("put", "new", Mayrow(1, 2, 1, (), ()))
        self.check_refused(book, TooMany, 200, book.do, (worse, deeds[1]))
        self.check_refused(book, Refused, ("broken", ("within", "ring", "new"), ("pair", "", "")), book.do,
                           (worse, deeds[0]))
        for deed in deeds:
            self.check_refused(book, TooMany, 200, book.would, (worse, deed))

    def test_lacking_ahead_of_too_many(self):
        book = filled(dict(NAMED, slow=SLOW, two=COUNTERS), [("answered", "copy")])
        both = (("promise", ("most", "slow", 99)), ("promise", ("most", "two", 99)))
        # What is lacking is told by `do` ahead of all that is judged; `would` judges, too.
        self.check_refused(book, Refused, ("lacking", ("answered", "copy")), book.do, (("take_out", "copy"),) + both)
        self.check_refused(book, TooMany, 200, book.would, (("take_out", "copy"),) + both)
        self.assertEqual(book.would((("take_out", "copy"),)), (("lacking", ("answered", "copy")),))

    def test_wrong_arguments(self):
        book = filled(promises=[("answered", "copy")])
        names = (InvalidOperation, NAMES)
        self.check_wrong(book.put, ("copy", COPY), names, (InvalidRow, wrong_rows()))
        self.check_wrong(book.take_out, ("lost",), names)
        for function in (book.promise, book.take_back, book.follows):
            self.check_wrong(function, (("answered", "copy"),), (InvalidPromise, PROMISES))
        lot = filled().lot()
        self.check_wrong(lot.put, ("copy", COPY), names, (InvalidRow, wrong_rows()))
        self.check_wrong(lot.take_out, ("lost",), names)
        for function in (lot.promise, lot.take_back):
            self.check_wrong(function, (("answered", "copy"),), (InvalidPromise, PROMISES))
        before = look_of(book)
        wrong_deeds = [value for value in strangers()] + [("put", "a"), ("put", "A", COPY), ("put", "a", None),
                                                          ("put", "a", COPY, 1), ("take_out", "a", "b"),
                                                          ("take_out", "A"), ("take_out",), ("drop", "a"),
                                                          ("promise", ("most", "a")), ("promise",), ("take_back", None),
                                                          ["take_out", "a"], ("answered", "copy"), (None, "a"),
                                                          ("promise", ("answered", "a"), COPY), ("put", COPY, "a"),
                                                          ("take_out", "a", COPY), ("promise", "a", COPY),
                                                          ("puts", "a", COPY), ("drop", ("answered", "a")),
                                                          ("put", ("answered", "a")), ("within", ("answered", "a"))]
        for function in (book.do, book.would):
            for value in strangers():
                self.assertRaisesThis(InvalidOperation, None, function, value)
            for value in wrong_deeds:
                self.assertRaisesThis(InvalidOperation, None, function, (value,))
                self.assertRaisesThis(InvalidOperation, None, function, (("take_out", "lost"), value))
        self.assertEqual(look_of(book), before)

    def test_follows_of_unknown_names(self):
        book = filled()
        for promise, name in ((("within", "a", "b"), "a"), (("alike", "copy", "b"), "b"),
                              (("told", "zz", (3,), 3), "zz")):
            self.check_refused(book, UnknownName, name, book.follows, promise)
        book.put("two", TWO)
        for promise in (("within", "two", "copy"), ("told", "copy", (2,), 0), ("told", "copy", (), 3),
                        ("alike", "copy", "two")):
            self.assertIs(book.follows(promise), False)


class VersionsTest(Checked):

    def test_undo_and_at(self):
        book = Book()
        seen = [look_of(book)[:3]]
        for deed in (("put", "copy", COPY), ("put", "free", FREE), ("promise", ("within", "copy", "free")),
                     ("put", "free", ONCE), ("take_back", ("within", "copy", "free")), ("put", "copy", SAME),
                     ("put", "free", ONCE), ("take_out", "copy")):
            try:
                if book.do((deed,)):
                    seen.append(look_of(book)[:3])
            except Refused:
                pass
        self.assertEqual((book.version, len(seen)), (7, 8))
        for version, told in enumerate(seen):
            other = book.at(version)
            self.assertEqual((look_of(other)[:3], other.version, other.touched, other.judged), (told, 0, (), ()))
            twin = copy.deepcopy(book)
            self.assertEqual((twin.undo(book.version - version), look_of(twin)[:3]), (version, told))
            self.assertEqual(twin.version, version)
            # What was undone is gone.
            for further in range(version + 1, 9):
                with self.assertRaises(InvalidNumber):
                    twin.at(further)
            with self.assertRaises(NothingToUndo) as caught:
                twin.undo(version + 1)
            self.assertEqual(caught.exception.many, version + 1)
        self.assertEqual((book.undo(), book.undo(), book.version), (6, 5, 5))
        self.assertEqual(look_of(book)[:3], seen[5])

    def test_wrong_numbers(self):
        book = filled()
        before = look_of(book)
        self.check_wrong(book.at, (2,), (InvalidNumber, wrong_numbers(0, 4)))
        for value in strangers():
            if type(value) is not int or value < 0 or value >= 10 ** 60:
                self.assertRaisesThis(InvalidNumber, value, book.undo, value)
            elif value > 4:
                with self.assertRaises(NothingToUndo) as caught:
                    book.undo(value)
                self.assertEqual(caught.exception.many, value)
        self.assertEqual(look_of(book), before)
        self.assertEqual((book.undo(0), look_of(book)), (4, before))

    def test_books_go_on_by_themselves(self):
        book = filled(promises=[("answered", "copy")])
        other = book.at(book.version)
        before = look_of(other)
        book.put("new", HALF)
        book.take_back(("answered", "copy"))
        self.assertEqual(look_of(other), before)
        behind = look_of(book)
        other.take_out("free")
        other.promise(("most", "copy", 1))
        self.assertEqual(look_of(book), behind)
        self.assertEqual((book.at(5).promises, other.version), ((("answered", "copy"),), 2))
        # What iterates over the names is not disturbed by deeds.
        for name in book:
            book.take_out(name)
        self.assertEqual(len(book), 0)

    def test_random_histories(self):
        rows = [COPY, FREE, LATE, ONCE, HALF, ODD, FAR, SAME, TWO, EMPTY]
        names = ["a", "b", "c"]
        counts = {"done": 0, "same": 0, "refused": 0, "unknown": 0}
        for seed in range(60):
            chance = random.Random(seed)
            book, model, history = Book(), ({}, ()), [({}, ())]
            for _ in range(30):
                deeds = tuple([random_deed(chance, names, rows) for _ in range(chance.choice((1, 1, 2, 3)))])
                before = look_of(book)
                outcome, behind = model_outcome(model, deeds)
                if outcome in ("done", "same"):
                    self.assertEqual(book.would(deeds), ())
                elif outcome[0] in ("lacking", "shape", "broken"):
                    self.assertEqual(book.would(deeds), model_would(model, behind))
                self.assertEqual(look_of(book), before)
                try:
                    result = "done" if book.do(deeds) else "same"
                except Refused as wrong:
                    result = wrong.reason
                except UnknownName as wrong:
                    result = ("unknown", wrong.wanted)
                self.assertEqual(result, outcome)
                kind = result if result in ("done", "same") else "unknown" if result[0] == "unknown" else "refused"
                counts[kind] += 1
                if outcome == "done":
                    self.assertEqual((book.touched, book.judged), touched_and_judged(model, behind))
                    model = behind
                    history.append(model)
                else:
                    self.assertEqual(look_of(book), before)
                if chance.random() < 0.1:
                    many = chance.randint(0, len(history) - 1)
                    earlier = history[len(history) - 1 - many]
                    self.assertEqual(book.undo(many), len(history) - 1 - many)
                    if many:
                        self.assertEqual((book.touched, book.judged), (touched_and_judged(model, earlier)[0], ()))
                    history = history[:len(history) - many]
                    model = earlier
                self.assertEqual(({name: book[name] for name in book}, book.promises, book.version),
                                 model + (len(history) - 1,))
                # [0.17] All promises are true.
                self.assertTrue(all(paper_against(promise, model[0]) is None for promise in book.promises))
            for version, (held, vows) in enumerate(history):
                other = book.at(version)
                self.assertEqual(({name: other[name] for name in other}, other.promises), (held, vows))
        self.assertGreater(min(counts.values()), 25)


def random_deed(chance, names, rows):
    """A deed about these names."""
    name, other = chance.choice(names), chance.choice(names)
    word = chance.choice(("put", "put", "put", "take_out", "promise", "promise", "promise", "take_back"))
    if word == "put":
        return (word, name, chance.choice(rows))
    if word == "take_out":
        return (word, name)
    promise = chance.choice((("within", name, other), ("alike", name, other), ("answered", name),
                             ("most", name, chance.randint(0, 2)), ("told", name, (0,), chance.randint(0, 2)),
                             ("told", name, (), 0), ("ahead", name, chance.randint(0, 1))))
    return (word, promise)


def model_outcome(model, deeds):
    """What doing the deeds comes to, and the rows and promises that are then told."""
    rows, vows = dict(model[0]), model[1]
    for deed in deeds:
        if deed[0] == "put":
            rows[deed[1]] = deed[2]
        elif deed[0] == "take_out":
            if deed[1] not in rows:
                return ("unknown", deed[1]), None
            del rows[deed[1]]
        elif deed[0] == "promise":
            vows = vows if deed[1] in vows else vows + (deed[1],)
        else:
            if deed[1] not in vows:
                return ("unknown", deed[1]), None
            vows = tuple([vow for vow in vows if vow != deed[1]])
    behind = (rows, vows)
    for vow in vows:
        if any(name not in rows for name in names_of(vow)):
            return ("lacking", vow), behind
    for vow in vows:
        if not does_fit(vow, rows):
            return ("shape", vow), behind
    for vow in vows:
        paper = paper_against(vow, rows)
        if paper is not None:
            return ("broken", vow, paper), behind
    return "same" if behind == model else "done", behind


def model_would(model, behind):
    """All promises that keep the deeds from being done."""
    rows, vows = behind
    found = []
    for vow in vows:
        if any(name not in rows for name in names_of(vow)):
            found.append(("lacking", vow))
        elif not does_fit(vow, rows):
            found.append(("shape", vow))
        elif paper_against(vow, rows) is not None:
            found.append(("broken", vow))
    return tuple(found)


def touched_and_judged(model, behind):
    """The touched names and the judged promises of a change."""
    before, after = [{name: Table.of(row) for name, row in rows.items()} for rows in (model[0], behind[0])]
    touched = tuple([name for name in sorted({**before, **after}) if before.get(name) != after.get(name)])
    judged = tuple([vow for vow in behind[1] if vow not in model[1] or set(names_of(vow)) & set(touched)])
    return touched, judged


class LotTest(Checked):

    def test_a_lot_is_done_as_a_whole(self):
        book = filled(promises=[("within", "copy", "free")])
        lot = book.lot()
        before = look_of(book)
        self.assertIsInstance(lot, Lot)
        self.assertIs(lot.is_open, True)
        told = [lot.put("free", ONCE), lot.put("free", ONCE), lot.put("copy", HALF), lot.take_out("late"),
                lot.promise(("most", "copy", 1)), lot.promise(("most", "copy", 1)), lot.take_back(("most", "copy", 1)),
                lot.promise(("alike", "once", "free")), lot.put("once", ONCE)]
        self.assertEqual(told, [True, False, True, True, True, False, True, True, False])
        self.assertEqual(look_of(book), before)
        self.assertEqual((lot.end(), lot.is_open, book.version, book.touched),
                         (True, False, 6, ("copy", "free", "late")))
        self.assertEqual((book["free"], book["copy"], book.names), (ONCE, HALF, ("copy", "free", "once")))
        self.assertEqual(book.judged, (("within", "copy", "free"), ("alike", "once", "free")))

    def test_empty_and_dropped_lots(self):
        book = filled()
        before = look_of(book)
        self.assertIs(book.lot().end(), False)
        lot = book.lot()
        lot.take_out("copy")
        self.assertIsNone(lot.drop())
        self.assertEqual((lot.is_open, look_of(book)), (False, before))
        lot = book.lot()
        lot.put("new", COPY)
        lot.take_out("new")
        self.assertIs(lot.end(), False)
        self.assertEqual(look_of(book), before)

    def test_refused_lots(self):
        book = filled(promises=[("within", "copy", "free")])
        before = look_of(book)
        for name, row, reason in (("free", ONCE, ("broken", ("within", "copy", "free"), ("pair", "11", "11"))),
                                  ("free", TWO, ("shape", ("within", "copy", "free")))):
            lot = book.lot()
            self.assertIs(lot.put(name, row), True)
            with self.assertRaises(Refused) as caught:
                lot.end()
            self.assertEqual((caught.exception.reason, lot.is_open, look_of(book)), (reason, False, before))
            self.assertIs(book.lot().end(), False)
        lot = book.lot()
        lot.put("slow", SLOW)
        lot.promise(("most", "slow", 99))
        self.assertTooMany(200, lot.end)
        self.assertEqual((lot.is_open, look_of(book)), (False, before))
        self.assertIs(book.put("new", COPY), True)

    def test_errors_of_deeds(self):
        book = filled({name: COPY for name in "abcdefghijkl"}, [("most", "a", number) for number in range(1, 17)])
        lot = book.lot()
        for error, told, function, values in (
                (TooMany, 12, lot.put, ("m", COPY)), (TooMany, 12, lot.put, ("m", SIXTY_ONE)),
                (TooMany, 60, lot.put, ("a", SIXTY_ONE)), (TooMany, 16, lot.promise, (("answered", "a"),)),
                (UnknownName, "m", lot.take_out, ("m",)), (UnknownName, ("answered", "a"), lot.take_back,
                                                           (("answered", "a"),))):
            with self.assertRaises(error) as caught:
                function(*values)
            self.assertEqual(getattr(caught.exception, "most" if error is TooMany else "wanted"), told)
            self.assertIs(lot.is_open, True)
        self.assertIs(lot.take_out("a"), True)
        self.assertIs(lot.put("m", COPY), True)
        lot.drop()
        # A lot of its own has no greatest number of deeds.
        lot = book.lot()
        for at in range(101):
            self.assertIs(lot.put("b", (FREE, COPY)[at % 2]), True)
        self.assertEqual((lot.end(), book["b"]), (True, FREE))

    def test_beside_an_open_lot(self):
        book = filled(promises=[("answered", "copy")])
        lot = book.lot()
        before = look_of(book)
        # Wrong values are told later than that a lot is open.
        for function, values in ((book.put, ("copy", FREE)), (book.put, (None, None)), (book.take_out, ("lost",)),
                                 (book.take_out, ("A",)), (book.promise, (("answered", "free"),)),
                                 (book.promise, (None,)), (book.take_back, (("answered", "copy"),)),
                                 (book.take_back, (7,)), (book.do, (None,)), (book.do, ((("take_out", "lost"),),)),
                                 (book.lot, ()), (book.undo, ()), (book.undo, (0,)), (book.undo, ("x",)),
                                 (book.undo, (99,))):
            self.assertRaisesThis(InvalidOperation, None, function, *values)
        self.assertEqual((look_of(book), lot.is_open), (before, True))
        # What does not change the book goes on.
        self.assertEqual(book.would((("take_out", "copy"),)), (("lacking", ("answered", "copy")),))
        self.assertEqual((book.follows(("answered", "copy")), book.at(0) == Book(), book == filled()),
                         (True, True, False))
        other = book.at(book.version)
        self.assertIs(other.put("copy", FREE), True)
        lot.drop()
        self.assertIs(book.lot().end(), False)

    def test_closed_lots(self):
        book = filled()
        for end in ("end", "drop"):
            lot = book.lot()
            getattr(lot, end)()
            other = book.lot()
            for function, values in ((lot.put, ("copy", FREE)), (lot.put, (None, None)), (lot.take_out, ("lost",)),
                                     (lot.promise, (None,)), (lot.take_back, (("answered", "copy"),)), (lot.end, ()),
                                     (lot.drop, ())):
                with self.assertRaises(InvalidOperation):
                    function(*values)
            self.assertEqual((lot.is_open, other.is_open), (False, True))
            other.drop()

    def test_with_statements(self):
        book = filled()
        with book.lot() as lot:
            lot.take_out("copy")
            self.assertIs(lot.is_open, True)
            self.assertIs(lot.end(), True)
        self.assertEqual((book.names, lot.is_open), (("free", "late", "once"), False))
        before = look_of(book)
        with book.lot() as lot:
            lot.take_out("free")
        self.assertEqual((look_of(book), lot.is_open), (before, False))
        with self.assertRaises(ZeroDivisionError):
            with book.lot() as lot:
                lot.take_out("free")
                raise ZeroDivisionError
        self.assertEqual((look_of(book), lot.is_open), (before, False))
        with self.assertRaises(UnknownName):
            with book.lot() as lot:
                lot.take_out("lost")
        self.assertIs(book.take_out("free"), True)
        # The end of a block closes its own lot alone.
        with book.lot() as lot:
            lot.drop()
            other = book.lot()
        self.assertEqual((lot.is_open, other.is_open), (False, True))
        self.assertRaises(InvalidOperation, book.lot)
        self.assertRaises(AttributeError, setattr, lot, "is_open", True)

    def test_lots_and_do_alike(self):
        rows = [COPY, FREE, LATE, ONCE, HALF, TWO]
        for seed in range(150):
            chance = random.Random(seed)
            one = filled({"a": COPY, "b": FREE}, [("within", "a", "b")])
            other = one.at(one.version)
            deeds = tuple([random_deed(chance, ["a", "b"], rows) for _ in range(chance.randint(1, 4))])
            told = []
            for book, is_lot in ((one, True), (other, False)):
                try:
                    told.append(run_lot(book, deeds) if is_lot else book.do(deeds))
                except (Refused, UnknownName) as wrong:
                    told.append(vars(wrong))
            self.assertEqual(told[0], told[1])
            self.assertEqual(one, other)


def run_lot(book, deeds):
    """What the end of a lot with these deeds returns."""
    with book.lot() as lot:
        for deed in deeds:
            getattr(lot, deed[0])(*deed[1:])
        return lot.end()


if __name__ == "__main__":
    unittest.main()
