"""Books: named rows, and promises that are true behind each deed and each lot [14.5 to 14.9]."""

from mayrows.base.checks import MOST_INTEGER, check_number, is_number
from mayrows.book.drafts import Draft
from mayrows.book.promises import check_promise, is_name, is_promise, names_of
from mayrows.book.rules import does_follow
from mayrows.errors import InvalidBook, InvalidOperation, NothingToUndo, Refused, TooMany, UnknownName
from mayrows.row.rows import Mayrow, check_row

MAX_NAMES = 12
MAX_PROMISES = 16
MAX_DEEDS = 40


class Lot:
    """Deeds that a book gets together, or not at all; each one tells whether it changes what the lot has."""

    def __init__(self, book, draft):
        self._book = book
        self._draft = draft
        self._is_open = True

    @property
    def is_open(self):
        """Whether the lot is open."""
        return self._is_open

    def put(self, name, row):
        """Give the name this row."""
        self._check_open()
        return _done(self._draft, _put_deed(name, row))

    def take_out(self, name):
        """Take the name out."""
        self._check_open()
        return _done(self._draft, _take_out_deed(name))

    def promise(self, promise):
        """Put the promise behind the others."""
        self._check_open()
        return _done(self._draft, _promise_deed("promise", promise))

    def take_back(self, promise):
        """Take the promise out."""
        self._check_open()
        return _done(self._draft, _promise_deed("take_back", promise))

    def end(self):
        """Close the lot; the book gets what it has. It returns whether this changes the book."""
        self._check_open()
        self._is_open = False
        return self._book.settle(self._draft)

    def drop(self):
        """Close the lot; nothing is done."""
        self._check_open()
        self._is_open = False

    def __enter__(self):
        return self

    def __exit__(self, kind, value, trace):
        self._is_open = False

    def _check_open(self):
        if not self._is_open:
            raise InvalidOperation("the lot is closed")


class Book:
    """Named rows and promises about them, all of which are true."""

    def __init__(self):
        self._now = Draft()
        # What the book had, version by version.
        self._earlier = []
        self._latest_lot = None
        self._touched = ()
        self._judged = ()

    @property
    def names(self):
        """The names, ascending."""
        return tuple(list(self._now.held))

    @property
    def promises(self):
        """The promises, in the order in which they were made."""
        return self._now.vows

    @property
    def version(self):
        """How many lots have changed the book, less those that were undone."""
        return len(self._earlier)

    @property
    def touched(self):
        """The names that the last change touched, ascending."""
        return self._touched

    @property
    def judged(self):
        """The promises that were judged at the last change."""
        return self._judged

    def put(self, name, row):
        """Give the name this row; it returns whether this changes the book."""
        self._check_free()
        return self._settle_deeds((_put_deed(name, row),))

    def take_out(self, name):
        """Take the name out; it returns whether this changes the book."""
        self._check_free()
        return self._settle_deeds((_take_out_deed(name),))

    def promise(self, promise):
        """Put the promise behind the others; it returns whether this changes the book."""
        self._check_free()
        return self._settle_deeds((_promise_deed("promise", promise),))

    def take_back(self, promise):
        """Take the promise out; it returns whether this changes the book."""
        self._check_free()
        return self._settle_deeds((_promise_deed("take_back", promise),))

    def do(self, deeds):
        """Do a lot of deeds; it returns whether this changes the book."""
        self._check_free()
        _check_deeds(deeds)
        return self._settle_deeds(deeds)

    def lot(self):
        """A new lot, which is open."""
        self._check_free()
        lot = Lot(self, self._now.fork())
        self._latest_lot = lot
        return lot

    def would(self, deeds):
        """The pairs (word, promise) for each promise that keeps these deeds from being done."""
        _check_deeds(deeds)
        draft = self._draft_with(deeds)
        judged = draft.judged_since(self._now)
        found = []
        for promise in draft.vows:
            if draft.is_lacking(promise):
                found.append(("lacking", promise))
            elif not draft.does_fit(promise):
                found.append(("shape", promise))
            elif promise in judged and draft.paper_against(promise) is not None:
                found.append(("broken", promise))
        return tuple(found)

    def undo(self, many=1):
        """Go so many versions back; it returns the version."""
        self._check_free()
        check_number(many, 0, MOST_INTEGER)
        if many > len(self._earlier):
            raise NothingToUndo(many)
        if many:
            before = self._now
            self._now = self._earlier[-many]
            del self._earlier[-many:]
            self._touched = self._now.touched_since(before)
            self._judged = ()
        return len(self._earlier)

    def at(self, version):
        """A new book with the rows and promises of an earlier version, or of this one."""
        check_number(version, 0, len(self._earlier))
        book = Book()
        book._now = (self._earlier + [self._now])[version]
        return book

    def follows(self, promise):
        """Whether the promise follows from those of the book [14.9]."""
        for name in names_of(promise):
            self._check_known(name)
        return self._now.does_fit(promise) and does_follow(promise, self._now.held, self._now.vows)

    def table_of(self, name):
        """The table of the mayrow with this name."""
        self._check_known(name)
        return self._now.tables[name]

    def settle(self, draft):
        """Get what a draft has, which is not changed any more; it returns whether this changes the book [14.7]."""
        _check_promises(draft, draft.judged_since(self._now))
        if draft.is_like(self._now):
            return False
        self._touched = draft.touched_since(self._now)
        self._judged = draft.judged_since(self._now)
        self._earlier.append(self._now)
        self._now = draft
        return True

    def __getitem__(self, name):
        self._check_known(name)
        return self._now.held[name]

    def __contains__(self, value):
        return isinstance(value, str) and value in self._now.held

    def __iter__(self):
        return iter(self._now.held)

    def __len__(self):
        return len(self._now.held)

    def __eq__(self, other):
        return isinstance(other, Book) and self._now.is_like(other._now)

    def __str__(self):
        return f"book of {len(self._now.held)} rows, {len(self._now.vows)} promises"

    def _check_free(self):
        if self._latest_lot is not None and self._latest_lot.is_open:
            raise InvalidOperation("a lot is open")

    def _check_known(self, name):
        if not isinstance(name, str) or name not in self._now.held:
            raise UnknownName(name)

    def _draft_with(self, deeds):
        draft = self._now.fork()
        for deed in deeds:
            _done(draft, deed)
        return draft

    def _settle_deeds(self, deeds):
        return self.settle(self._draft_with(deeds))


def check_book(book):
    """Raise `InvalidBook` unless `book` is a book."""
    if not isinstance(book, Book):
        raise InvalidBook("this is no book")


def _put_deed(name, row):
    _check_name(name)
    check_row(row)
    return ("put", name, row)


def _take_out_deed(name):
    _check_name(name)
    return ("take_out", name)


def _promise_deed(word, promise):
    check_promise(promise)
    return (word, promise)


def _check_name(name):
    if not is_name(name):
        raise InvalidOperation("this is no name")


def _check_deeds(deeds):
    if not isinstance(deeds, tuple) or not is_number(len(deeds), 1, MAX_DEEDS):
        raise InvalidOperation("a lot is a tuple of 1 to 40 deeds")
    if not all([_is_deed(deed) for deed in deeds]):
        raise InvalidOperation("this is no deed")


def _is_deed(value):
    if not isinstance(value, tuple) or len(value) not in (2, 3):
        return False
    if len(value) == 3:
        return value[0] == "put" and is_name(value[1]) and isinstance(value[2], Mayrow)
    if value[0] == "take_out":
        return is_name(value[1])
    return value[0] in ("promise", "take_back") and is_promise(value[1])


def _done(draft, deed):
    """Whether the deed, which is done now, changes the draft."""
    before = draft.fork()
    if deed[0] == "put":
        if deed[1] not in draft.held and len(draft.held) == MAX_NAMES:
            raise TooMany(MAX_NAMES)
        draft.set_row(deed[1], deed[2])
    elif deed[0] == "take_out":
        if deed[1] not in draft.held:
            raise UnknownName(deed[1])
        draft.drop_row(deed[1])
    elif deed[0] == "take_back":
        if deed[1] not in draft.vows:
            raise UnknownName(deed[1])
        draft.vows = tuple([vow for vow in draft.vows if vow != deed[1]])
    elif deed[1] not in draft.vows:
        if len(draft.vows) == MAX_PROMISES:
            raise TooMany(MAX_PROMISES)
        draft.vows = draft.vows + (deed[1],)
    return not draft.is_like(before)


def _check_promises(draft, judged):
    """Raise `Refused` if a promise of the draft lacks a row, does not fit, or is judged and does not hold."""
    for promise in draft.vows:
        if draft.is_lacking(promise):
            raise Refused(("lacking", promise))
    for promise in draft.vows:
        if not draft.does_fit(promise):
            raise Refused(("shape", promise))
    for promise in judged:
        paper = draft.paper_against(promise)
        if paper is not None:
            raise Refused(("broken", promise, paper))
