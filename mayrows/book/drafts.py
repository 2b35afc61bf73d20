"""What a book has at one time [14.5, 14.7]."""

from mayrows.book.promises import fits_rows, names_of, paper_of
from mayrows.table.tables import Table


class Draft:
    """Named rows with their tables, and promises."""

    def __init__(self):
        # All three are never changed, but replaced; so forks can share them. The keys of both dicts ascend.
        self.held = {}
        self.tables = {}
        self.vows = ()

    def fork(self):
        """A draft with the same rows and promises that goes on by itself."""
        draft = Draft()
        draft.held = self.held
        draft.tables = self.tables
        draft.vows = self.vows
        return draft

    def is_like(self, other):
        """Whether the other draft has the same rows and promises."""
        return self.held == other.held and self.vows == other.vows

    def set_row(self, name, row):
        """Give the name this row."""
        table = Table.of(row)
        self.held = _with_item(self.held, name, row)
        self.tables = _with_item(self.tables, name, table)

    def drop_row(self, name):
        """Take the name out."""
        self.held = {key: self.held[key] for key in self.held if key != name}
        self.tables = {key: self.tables[key] for key in self.tables if key != name}

    def touched_since(self, before):
        """The ascending tuple of the names that have another table than before, or a row only now or only before."""
        names = sorted(set(list(self.tables) + list(before.tables)))
        return tuple([name for name in names if name not in self.tables or name not in before.tables
                      or self.tables[name] != before.tables[name]])

    def judged_since(self, before):
        """The tuple of the promises that are judged: the new ones, and those with a touched name."""
        touched = self.touched_since(before)
        return tuple([vow for vow in self.vows
                      if vow not in before.vows or any([name in touched for name in names_of(vow)])])

    def is_lacking(self, promise):
        """Whether a name of the promise has no row."""
        return not all([name in self.held for name in names_of(promise)])

    def does_fit(self, promise):
        """Whether the promise, none of whose names lacks a row, fits."""
        return fits_rows(promise, [self.held[name] for name in names_of(promise)])

    def paper_against(self, promise):
        """The paper against a promise that fits, or `None`."""
        return paper_of(promise, [self.tables[name] for name in names_of(promise)])


def _with_item(items, name, value):
    """A copy of the dict that has this item, too."""
    longer = {key: items[key] for key in items}
    longer[name] = value
    return {key: longer[key] for key in sorted(list(longer))}
