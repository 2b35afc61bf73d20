"""Texts of rows, tables, plain rows, promises and books [15.1 to 15.8]."""

from mayrows.base.checks import MOST_AHEAD
from mayrows.book.books import MAX_NAMES, MAX_PROMISES, Book, check_book
from mayrows.book.promises import MANY_LINES, MOST_ANSWERS, check_promise
from mayrows.errors import ParseError
from mayrows.least.passes import MAX_SIDE, Passes, check_passes
from mayrows.row.rows import Mayrow, check_row
from mayrows.table.tables import MAX_ROW_STATES, MAX_STATES, Table, check_table
from mayrows.text.words import NOTHING, Words

PROMISE_WORDS = ("within", "alike", "answered", "most", "told", "ahead")


def write_row(row):
    """The text of a mayrow."""
    check_row(row)
    words = ["row", str(row.reads), str(row.writes), str(row.states), _digits(row.lasts)]
    return " ".join(words + [_digits(choice) for choice in row.choices])


def write_table(table):
    """The text of a table."""
    check_table(table)
    words = ["table", str(table.reads), str(table.writes), str(len(table.rows))]
    return " ".join(words + [("+" if last else "-") + _list(nexts) for last, nexts in table.rows])


def write_passes(passes):
    """The text of a plain row."""
    check_passes(passes)
    numbers = [passes.reads, passes.writes, len(passes.rights), len(passes.lefts)]
    words = ["passes"] + [str(number) for number in numbers] + [_list(passes.starts) if passes.starts else NOTHING]
    lefts = [",".join([f"{said}:{left}" for entry in row for said, left in entry]) for row in passes.lefts]
    return " ".join(words + [_list(nexts) for nexts in passes.rights] + lefts)


def write_promise(promise):
    """The text of a promise."""
    check_promise(promise)
    return " ".join([_digits(part) if isinstance(part, tuple) else str(part) for part in promise])


def write_book(book):
    """The text of a book."""
    check_book(book)
    lines = [f"put {name} {write_row(book[name])}" for name in book.names]
    return "\n".join(lines + [f"promise {write_promise(promise)}" for promise in book.promises])


def read_row(text):
    """The mayrow with this text."""
    return row_in(_words_of(text))


def read_table(text):
    """The table with this text."""
    words = _words_of(text)
    words.take_one_of(("table",))
    reads, writes = words.take_number(1, 2), words.take_number(1, 2)
    many = words.take_number(1, MAX_STATES)
    rows = []
    for _ in range(many):
        word = words.take()
        words.check(word[:1] in ("+", "-"))
        rows.append((word[0] == "+", words.check_list(word[1:], 1 << (reads + writes), many)))
    words.end()
    table = Table.told(reads, writes, tuple(rows))
    if table.rows != tuple(rows):
        raise ParseError(len(text))
    return table


def read_passes(text):
    """The plain row with this text."""
    words = _words_of(text)
    words.take_one_of(("passes",))
    reads, writes = words.take_number(1, 2), words.take_number(1, 2)
    many, many_lefts = words.take_number(1, MAX_SIDE), words.take_number(1, MAX_SIDE)
    starts = words.take_rising_list(many)
    letters = range(1 << reads)
    rights = [words.take_list(1 << reads, many) for _ in range(many)]
    lefts = []
    for _ in range(many_lefts):
        pairs = words.take_pairs(many << reads, 1 << writes, many_lefts)
        lefts.append(tuple([pairs[letter * many:(letter + 1) * many] for letter in letters]))
    words.end()
    return Passes(reads, writes, tuple(rights), starts, tuple(lefts))


def read_promise(text):
    """The promise with this text."""
    return promise_in(_words_of(text))


def read_book(text):
    """The book with this text."""
    _check_string(text)
    book = Book()
    if text == "":
        return book
    deeds = _deeds_of(text)
    book.do(tuple(deeds))
    return book.at(book.version)


def read_any(text):
    """The value of any of the five sorts with this text."""
    _check_string(text)
    word = text.split("\n")[0].split(" ")[0]
    if text == "" or word in ("put", "promise"):
        return read_book(text)
    if word == "row":
        return read_row(text)
    if word == "table":
        return read_table(text)
    if word == "passes":
        return read_passes(text)
    if word in PROMISE_WORDS:
        return read_promise(text)
    raise ParseError(0)


def view(table):
    """A text for reading by people: a line for each state."""
    check_table(table)
    lines = []
    for state, (last, nexts) in enumerate(table.rows):
        mark = "*" if last else " "
        lines.append(f"{state:>2}{mark}" + "".join([f"{following:>3}" for following in nexts]))
    return "\n".join(lines)


def row_in(words):
    """The mayrow whose text are the words that are left."""
    words.take_one_of(("row",))
    reads, writes = words.take_number(1, 2), words.take_number(1, 2)
    states = words.take_number(1, MAX_ROW_STATES)
    lasts = words.take_rising_digits(states)
    choices = []
    while words.next_word() is not None:
        choice = words.take_digits((states, 1 << reads, 1 << writes, states))
        words.check(choices == [] or choices[-1] < choice)
        choices.append(choice)
    return Mayrow(reads, writes, states, tuple(choices), lasts)


def promise_in(words):
    """The promise whose text are the words that are left."""
    word = words.take_one_of(PROMISE_WORDS)
    promise = (word, words.take_name())
    if word in ("within", "alike"):
        promise = promise + (words.take_name(),)
    elif word == "most":
        promise = promise + (words.take_number(0, MOST_ANSWERS),)
    elif word == "told":
        promise = promise + (words.take_rising_digits(MANY_LINES), words.take_number(0, MANY_LINES - 1))
    elif word == "ahead":
        promise = promise + (words.take_number(0, MOST_AHEAD),)
    words.end()
    return promise


def _deeds_of(text):
    """The deeds that the lines of the text of a book tell."""
    names, promises, deeds = [""], [], []
    begin = 0
    for line in text.split("\n"):
        words = Words(line, begin)
        word = words.take_one_of(("put", "promise"))
        if word == "put":
            words.check(promises == [] and len(names) <= MAX_NAMES)
            name = words.take_name()
            words.check(name > names[-1])
            names.append(name)
            deeds.append((word, name, row_in(words)))
        else:
            words.check(len(promises) < MAX_PROMISES)
            spot = words.next_begin()
            promise = promise_in(words)
            if promise in promises:
                raise ParseError(spot)
            promises.append(promise)
            deeds.append((word, promise))
        begin += len(line) + 1
    return deeds


def _check_string(text):
    if not isinstance(text, str):
        raise ParseError(None)


def _words_of(text):
    _check_string(text)
    return Words(text)


def _digits(numbers):
    """A word of digits, or `-`."""
    return "".join([str(number) for number in numbers]) if numbers else NOTHING


def _list(numbers):
    return ",".join([str(number) for number in numbers])
