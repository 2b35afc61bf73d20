"""What the tests of all modules share: wrong values of all kinds, and how calls are looked at."""

import copy
import unittest
from itertools import combinations

from mayrows.ahead.players import Player
from mayrows.book.books import Book
from mayrows.errors import InvalidNumber, TooMany
from mayrows.least.passes import Passes
from mayrows.row.rows import Mayrow
from mayrows.table.tables import Table
from tests.samples import COPY, LATE, PARITY


def strangers():
    """Values of every kind that point 0.4 lists, made anew."""
    deep_tuple, deep_list, deep_dict = 0, "", None
    for _ in range(10):
        deep_tuple, deep_list, deep_dict = (deep_tuple,), [deep_list], {"a": deep_dict}
    printable = "".join([chr(code) for code in range(32, 127)])
    return [-1, 0, 1, 2, 3, 4, 5, 6, 7, 60, 61, 200, 201, 10 ** 59, 10 ** 60, 10 ** 99, -10 ** 99,
            True, False, None, "", "0", "1", "3", "4", "x", "00 ", " 0", "0\n", "\t", "0" * 201, "1" * 3000, printable,
            (), (0,), (True,), (None,), ("",), ((),), (0, 0, 0, 0), ((0, 0, 0, 0),), [], [0], [[0, 0, 0, 0]], ["0"],
            {}, {0: 0}, {"0": ()}, {(0, 0, 0): ((0, 0, 0),)}, deep_tuple, deep_list, deep_dict,
            COPY, LATE, Table.of(COPY), PARITY, (COPY, Table.of(LATE)), {"a": [COPY]}, (PARITY,),
            [PARITY, PARITY], Book(), Player(Table.of(LATE), 1), (Book(),)]


def wrong_numbers(low, high):
    """Strangers that are no integers of this range."""
    return [value for value in strangers() if type(value) is not int or not low <= value <= high]


def wrong_texts(letters):
    """Strangers that are no texts of these letters."""
    found = [value for value in strangers()
             if type(value) is not str or len(value) > 200 or set(value) - set("0123"[:letters])]
    return found + ["0" * 200 + "\n", "0" * 100 + "4" + "0" * 99, list("00"), ("0", "1")]


def wrong_rows():
    """Strangers that are no mayrows."""
    return [value for value in strangers() if not isinstance(value, Mayrow)]


def wrong_tables():
    """Strangers that are no tables."""
    return [value for value in strangers() if not isinstance(value, Table)]


def wrong_passes():
    """Strangers that are no plain rows."""
    return [value for value in strangers() if not isinstance(value, Passes)]


def wrong_booleans():
    """Strangers that are no booleans."""
    return [value for value in strangers() if type(value) is not bool]


def is_same(one, other):
    """Whether two values are equal in their kinds, too: `True` is not 1, and a list is no tuple."""
    if type(one) is not type(other):
        return False
    if isinstance(one, (tuple, list)):
        return len(one) == len(other) and all(map(is_same, one, other))
    return one == other


def spoilt(value):
    """Values that differ from this one in one place, or in what they are."""
    for other in _spoilt(value):
        if not is_same(value, other):
            yield other


def _spoilt(value):
    yield from [None, (value,), [value], {"a": value}, 10 ** 60, COPY, Table.of(LATE)]
    if isinstance(value, tuple):
        yield from [list(value), value[::-1], value + (None,), value + value[-1:], value[1:]]
        for at, part in enumerate(value):
            yield value[:at] + value[at + 1:]
            yield value[:at] + (part,) + value[at:]
            for other in spoilt(part):
                yield value[:at] + (other,) + value[at + 1:]
    elif isinstance(value, str):
        yield from [value + "0", value + "1", value + "x", value + "\n", value[1:], value[:-1], value * 201, 0, ()]
        for at in range(len(value)):
            yield from [value[:at] + mark + value[at + 1:] for mark in "0134"]
    elif isinstance(value, int):
        yield from [value + 1, value - 1, -value, bool(value), int(value), str(value), value + 10 ** 99]


class Checked(unittest.TestCase):
    """A test case that knows how to look at calls."""

    def answer(self, function, *values, **named):
        """What a call returns; it changes none of its arguments, and a second one returns the same."""
        kept = copy.deepcopy((values, named))
        result = function(*values, **named)
        self.assertEqual((values, named), kept)
        self.assertEqual(function(*values, **named), result)
        self.assertIsPlain(result)
        return result

    def assertIsPlain(self, value):
        """Nothing that is returned can be changed: there are no lists and no dicts in it."""
        if type(value) is tuple:
            for part in value:
                self.assertIsPlain(part)
        else:
            self.assertIn(type(value), (int, str, bool, type(None), Mayrow, Table, Passes))

    def assertRaisesThis(self, error, given, function, *values, **named):
        """The call raises just this kind of error, keeps what was given, and changes nothing."""
        kept = copy.deepcopy((values, named))
        with self.assertRaises(error) as caught:
            function(*values, **named)
        self.assertIs(type(caught.exception), error, (values, named))
        if error is InvalidNumber:
            self.assertTrue(is_same(caught.exception.given, given), (values, named))
        self.assertEqual((values, named), kept)

    def assertTooMany(self, most, function, *values, **named):
        """The call raises `TooMany(most)`."""
        with self.assertRaises(TooMany) as caught:
            function(*values, **named)
        self.assertIs(type(caught.exception), TooMany)
        self.assertEqual(caught.exception.most, most)

    def check_wrong(self, function, good, *wrongs):
        """Check what wrong arguments raise: for each parameter an error class and wrong values.

        First each parameter is wrong alone, with each of its wrong values; then any two are wrong at once, and
        the error of the first one is raised. `good` are right values for all parameters.
        """
        self.assertEqual(len(good), len(wrongs))
        for at, (error, values) in enumerate(wrongs):
            for value in values:
                self.assertRaisesThis(error, value, function, *good[:at], value, *good[at + 1:])
        for first, second in combinations(range(len(good)), 2):
            error, values = wrongs[first]
            for value in values[::5]:
                for other in wrongs[second][1][::7]:
                    changed = list(good)
                    changed[first], changed[second] = value, other
                    self.assertRaisesThis(error, value, function, *changed)
