"""Terms: tables that are made of the tables of a book [16.2]."""

from mayrows.book.promises import is_name
from mayrows.table.calculus import behind, turned

BETWEEN = ("|", "&", "-", ">")
AHEAD = ("~", "^")


class TermReader:
    """What reads a term from words: its names, and what to do with their tables, in the order in which it is done."""

    def __init__(self, words, most):
        self._words = words
        self._most = most
        self._many = 0
        # Names, and behind the tables that they work on the words of `BETWEEN` and `AHEAD`.
        self.steps = []

    def take_term(self):
        """Take parts with words between them, as many as there are."""
        self._take_part()
        while self._words.next_word() in BETWEEN:
            word = self._take()
            self._take_part()
            self.steps.append(word)

    def _take_part(self):
        word = self._take()
        if word in AHEAD:
            self._take_part()
            self.steps.append(word)
        elif word == "(":
            self.take_term()
            self._words.check(self._take() == ")")
        else:
            self._words.check(is_name(word))
            self.steps.append(word)

    def _take(self):
        """Take a word of the term, if there is not one too many."""
        word = self._words.take()
        self._many += 1
        self._words.check(self._many <= self._most)
        return word


def term_in(words, most):
    """The steps of the term with which the words that are left begin; of its words at most so many are taken."""
    reader = TermReader(words, most)
    reader.take_term()
    return reader.steps


def names_in(steps):
    """The list of the names in the steps of a term, from the left."""
    return [step for step in steps if step not in BETWEEN and step not in AHEAD]


def table_by(steps, book):
    """The table of a term, all of whose names are in the book."""
    tables = []
    for step in steps:
        if step in AHEAD:
            table = tables.pop()
            tables.append(~table if step == "~" else turned(table))
        elif step in BETWEEN:
            other = tables.pop()
            tables.append(_table_between(tables.pop(), step, other))
        else:
            tables.append(book.table_of(step))
    return tables[0]


def _table_between(table, word, other):
    if word == "|":
        return table | other
    if word == "&":
        return table & other
    if word == "-":
        return table - other
    return behind(table, other)
