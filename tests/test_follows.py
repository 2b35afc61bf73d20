"""Point 14.9: which promises follow from those of a book."""

import random
import unittest

from mayrows.book.books import Book
from mayrows.book.promises import does_fit, does_hold
from mayrows.row.rows import Mayrow
from mayrows.table.calculus import letterwise
from tests import promising
from tests.checking import Checked
from tests.samples import COPY, FREE, LATE, ODD, ONCE
from tests.test_books import EMPTY, SAME
from tests.test_promises import TWO

NOUGHTS = Mayrow(1, 1, 1, ((0, 0, 0, 0), (0, 1, 0, 0)), (0,))
WIDE = letterwise(2, 2, ((0, 0), (1, 1), (2, 2), (3, 3))).as_row()
SUM = letterwise(2, 1, ((0, 0), (1, 1), (2, 1), (3, 0))).as_row()
NUMBERS = (0, 1, 2, 5, 98, 99)


def book_of(rows, promises):
    """A book with these rows and promises."""
    book = Book()
    with book.lot() as lot:
        for name, row in rows.items():
            lot.put(name, row)
        for promise in promises:
            lot.promise(promise)
        lot.end()
    return book


class FollowsTest(Checked):

    def check_follows(self, rows, promises):
        """Compare all that follows with the rules used one by one."""
        book = book_of(rows, promises)
        expected = promising.all_that_follows(rows, promises)
        for promise in promising.all_promises(rows, NUMBERS):
            self.assertIs(book.follows(promise), promise in expected, (promises, promise))
        return expected

    def test_a_book_without_promises(self):
        rows = {"a": COPY, "b": SUM}
        expected = self.check_follows(rows, [])
        self.assertIn(("alike", "a", "a"), expected)
        self.assertIn(("told", "b", (0, 2), 2), expected)
        self.assertNotIn(("told", "b", (0, 2), 1), expected)
        book = book_of(rows, [])
        # They hold, but they do not follow.
        for promise in (("answered", "a"), ("most", "a", 1), ("most", "a", 99), ("ahead", "a", 3),
                        ("told", "b", (0, 1), 2)):
            self.assertEqual((does_hold(promise, rows), book.follows(promise)), (True, False))

    def test_each_rule_alone(self):
        rows = {"a": COPY, "b": FREE, "c": FREE, "d": SAME, "s": SUM, "w": WIDE, "z": NOUGHTS}
        for promises, promise in (
                ([], ("within", "a", "a")),
                ([("within", "a", "b"), ("within", "b", "c")], ("within", "a", "c")),
                ([("within", "a", "d"), ("within", "d", "a")], ("alike", "a", "d")),
                ([("alike", "a", "d")], ("within", "a", "d")),
                ([("alike", "a", "d")], ("within", "d", "a")),
                ([("alike", "d", "a")], ("within", "a", "d")),
                ([("alike", "c", "b")], ("within", "b", "c")),
                ([("alike", "b", "c")], ("within", "c", "b")),
                ([("answered", "d"), ("within", "d", "a"), ("most", "a", 1)], ("within", "a", "d")),
                ([("within", "a", "b"), ("answered", "a")], ("answered", "b")),
                ([("within", "a", "b"), ("ahead", "a", 2)], ("ahead", "b", 2)),
                ([("within", "a", "d"), ("most", "d", 7)], ("most", "a", 7)),
                ([("within", "a", "d"), ("told", "d", (1,), 0)], ("told", "a", (1,), 0)),
                ([("most", "a", 3)], ("most", "a", 4)),
                ([("most", "a", 98)], ("most", "a", 99)),
                ([("ahead", "a", 1)], ("ahead", "a", 2)),
                ([("ahead", "a", 3)], ("answered", "a")),
                ([], ("told", "s", (1, 2), 2)),
                ([("told", "s", (0, 1), 2), ("told", "s", (0, 2), 1)], ("told", "s", (0, 1), 2)),
                ([("told", "w", (0,), 2), ("told", "w", (2,), 0)], ("told", "w", (0, 1), 2)),
                ([("told", "w", (0,), 2), ("told", "w", (1,), 3), ("told", "w", (2, 3), 1)], ("told", "w", (0, 3), 2)),
                ([("most", "s", 1)], ("told", "s", (0, 1), 2)),
                ([("told", "w", (0, 1), 2), ("told", "w", (0, 1), 3)], ("most", "w", 1)),
                ([("answered", "a"), ("within", "a", "d"), ("most", "d", 1)], ("within", "d", "a"))):
            self.assertIs(book_of(rows, promises).follows(promise), True, promise)
            self.assertTrue(does_hold(promise, rows))
            # Beside what tells itself, and what is within itself, one rule is enough.
            known = promising.one_step(rows, set()) | set(promises)
            self.assertIn(promise, promising.one_step(rows, known))
            # Each of the promises is needed, unless it follows by itself.
            for at in range(len(promises)):
                fewer = promises[:at] + promises[at + 1:]
                self.assertIs(book_of(rows, fewer).follows(promise),
                              promise in promising.all_that_follows(rows, fewer), (promise, fewer))

    def test_what_does_not_follow(self):
        rows = {"a": COPY, "b": FREE, "d": SAME, "w": WIDE, "o": ODD, "e": EMPTY}
        for promises, promise in (
                ([("within", "a", "b"), ("answered", "b")], ("answered", "a")),
                ([("within", "a", "b"), ("most", "a", 1)], ("most", "b", 1)),
                ([("within", "a", "d"), ("ahead", "d", 0)], ("ahead", "a", 0)),
                ([("within", "a", "d"), ("told", "a", (0,), 1)], ("told", "d", (0,), 1)),
                ([("within", "a", "b")], ("within", "b", "a")),
                ([("within", "a", "b"), ("within", "d", "b")], ("within", "a", "d")),
                ([("most", "a", 4)], ("most", "a", 3)), ([("ahead", "b", 2)], ("ahead", "b", 1)),
                ([("answered", "a")], ("ahead", "a", 3)), ([("told", "w", (0, 1), 2)], ("most", "w", 1)),
                ([("told", "w", (0, 1), 2)], ("told", "w", (0,), 2)), ([("most", "a", 2)], ("told", "a", (0,), 1)),
                ([("answered", "a"), ("within", "a", "d"), ("most", "a", 1)], ("within", "d", "a")),
                ([("within", "a", "d"), ("most", "d", 1)], ("within", "d", "a")),
                ([("answered", "a"), ("within", "a", "d"), ("most", "d", 2)], ("within", "d", "a")),
                ([("within", "e", "o"), ("most", "o", 1)], ("within", "o", "e")),
                ([("told", "w", (2,), 0)], ("told", "w", (0,), 2))):
            self.assertIs(book_of(rows, promises).follows(promise), False, promise)
            self.assertNotIn(promise, promising.all_that_follows(rows, promises))

    def test_several_rules(self):
        rows = {"a": COPY, "b": SAME, "c": FREE, "l": LATE, "w": WIDE}
        expected = self.check_follows(rows, [("ahead", "a", 1), ("within", "a", "b"), ("told", "b", (0,), 1),
                                             ("within", "b", "c")])
        for promise in (("alike", "a", "b"), ("answered", "c"), ("ahead", "b", 3), ("most", "a", 1), ("most", "b", 99),
                        ("within", "a", "c"), ("ahead", "c", 1), ("told", "a", (0,), 1)):
            self.assertIn(promise, expected)
        for promise in (("most", "c", 99), ("ahead", "a", 0), ("answered", "l"), ("within", "c", "a")):
            self.assertNotIn(promise, expected)
        # Lines that nothing tells, and lines that tell by way of others.
        self.check_follows({"w": WIDE}, [("most", "w", 1), ("told", "w", (2,), 0), ("told", "w", (3,), 1)])
        self.check_follows({"z": NOUGHTS, "y": NOUGHTS}, [("told", "z", (), 1), ("within", "y", "z"),
                                                          ("answered", "y")])
        self.check_follows({"e": EMPTY, "c": FREE}, [("most", "e", 0), ("within", "e", "c"), ("told", "e", (), 0)])

    def test_random_promises(self):
        rows = {"a": FREE, "b": COPY, "c": SAME, "d": ONCE, "e": EMPTY, "f": FREE, "s": SUM, "t": TWO, "w": WIDE,
                "x": WIDE}
        every = [promise for promise in promising.all_promises(rows, NUMBERS) if does_hold(promise, rows)]
        many = 0
        for seed in range(25):
            chance = random.Random(seed)
            names = chance.sample(sorted(rows), 3)
            kept = {name: rows[name] for name in names}
            fitting = [promise for promise in every
                       if all(name in kept for name in promise[1:] if type(name) is str) and does_fit(promise, kept)]
            links = [promise for promise in fitting if promise[0] in ("within", "alike") and promise[1] != promise[2]]
            promises = chance.sample(fitting, min(len(fitting), chance.randint(2, 7))) + chance.sample(
                links, min(len(links), chance.randint(0, 3)))
            many += len(self.check_follows(kept, list(dict.fromkeys(promises))))
        self.assertGreater(many, 1000)

    def test_what_follows_holds(self):
        rows = {"a": COPY, "b": SAME, "c": FREE, "l": LATE}
        promises = [("alike", "a", "b"), ("ahead", "a", 0), ("most", "b", 1), ("within", "b", "c"), ("most", "l", 1)]
        book = book_of(rows, promises)
        for promise in promising.all_promises(rows, NUMBERS):
            if book.follows(promise):
                self.assertIs(does_hold(promise, rows), True)

    def test_rules_end_at_their_greatest_numbers(self):
        rows = {"a": COPY}
        self.assertEqual([book_of(rows, [("most", "a", 99)]).follows(("most", "a", number)) for number in (98, 99)],
                         [False, True])
        self.assertEqual([book_of(rows, [("ahead", "a", 3)]).follows(("ahead", "a", ahead)) for ahead in range(4)],
                         [False, False, False, True])
        self.assertIs(book_of(rows, [("most", "a", 50)]).follows(("told", "a", (0,), 1)), False)


if __name__ == "__main__":
    unittest.main()
