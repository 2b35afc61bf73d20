"""A shell: a book with which one speaks in lines [16.1 to 16.7]."""

from mayrows.book.books import Book, check_book
from mayrows.errors import (InvalidNumber, InvalidOperation, MayrowError, NothingToUndo, ParseError, Refused, TooMany,
                            UnknownName)
from mayrows.text.commands import command_of
from mayrows.text.formats import write_promise
from mayrows.text.replies import reply_to

MAX_LINE = 3000
MAX_TERM = 40
MAX_NOTED = 40
MAX_SHOWN = 3


class Shell:
    """A book of its own, and commands that change it and ask what it has."""

    def __init__(self, book=None):
        if book is not None:
            check_book(book)
        self._book = Book() if book is None else book.at(book.version)
        # The noted deeds, each with its line, or `None` if no lot is open.
        self._notes = None
        self._log = []
        self._many_lines = 0

    @property
    def noted(self):
        """How many deeds are noted, or `None` if no lot is open."""
        return None if self._notes is None else len(self._notes)

    @property
    def log(self):
        """The lines that changed the book."""
        return tuple(self._log)

    def run_all(self, *lines):
        """A generator that runs the lines one by one, and yields their answers."""
        for line in lines:
            _check_line(line)
        for line in lines:
            yield self._answer(line)

    def book(self):
        """A new book that is equal to the own one."""
        return self._book.at(self._book.version)

    def __call__(self, line):
        _check_line(line)
        return self._answer(line)

    def __len__(self):
        return len(range(self._many_lines))

    def __str__(self):
        return f"shell: {len(self._book)} rows, {len(self._book.promises)} promises, {self._many_lines} lines"

    def _answer(self, line):
        self._many_lines += 1
        try:
            command = command_of(line, MAX_TERM)
        except ParseError as wrong:
            return f"? {wrong.spot}"
        return self._answer_to(line, command)

    def _answer_to(self, line, command):
        """What running a command answers, or what it raises."""
        try:
            return self._run(line, command)
        except UnknownName as unknown:
            is_name = isinstance(unknown.wanted, str)
            return "unknown " + (unknown.wanted if is_name else write_promise(unknown.wanted))
        except TooMany as excess:
            return f"too many {excess.most}"
        except Refused as refusal:
            return f"refused {refusal.reason[0]} {write_promise(refusal.reason[1])}"
        except NothingToUndo:
            return "nothing to undo"
        except InvalidNumber:
            return "wrong number"
        except MayrowError:
            return "wrong"

    def _run(self, line, command):
        word = command[0]
        if word == "deed":
            return self._do(line, command[1]) if self._notes is None else self._note(line, command[1])
        if word in ("lot", "undo") and self._notes is not None:
            return "not here"
        if word in ("end", "drop") and self._notes is None:
            return "not here"
        if word == "lot":
            self._notes = []
            return "lot"
        if word == "undo":
            return self._undo(line, command[1])
        if word == "end":
            return self._end()
        if word == "drop":
            return self._drop()
        return reply_to(command, self._book, MAX_SHOWN)

    def _do(self, line, deed):
        if not self._book.do((deed,)):
            return "nothing"
        self._log.append(line)
        return "done"

    def _note(self, line, deed):
        if len(self._notes) == MAX_NOTED:
            raise TooMany(MAX_NOTED)
        self._notes.append((line, deed))
        return f"noted {len(self._notes)}"

    def _undo(self, line, many):
        version = self._book.undo(many)
        if many:
            self._log.append(line)
        return f"version {version}"

    def _end(self):
        notes = self._notes
        self._notes = None
        if not notes or not self._book.do(tuple([deed for _, deed in notes])):
            return "nothing"
        self._log.extend(["lot"] + [line for line, _ in notes] + ["end"])
        return "done"

    def _drop(self):
        many = len(self._notes)
        self._notes = None
        return f"dropped {many}"


def _check_line(line):
    if not isinstance(line, str) or len(line) > MAX_LINE or not all([32 <= ord(mark) <= 126 for mark in line]):
        raise InvalidOperation("a line is a string of at most 3000 printable characters")
