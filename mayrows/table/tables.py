"""Tables: sets of pairs for all widths [0.11, 3.1, 3.2, 3.3]."""

from mayrows.base.checks import check_number, is_number, is_tuple_below
from mayrows.base.masks import mask_of
from mayrows.base.texts import check_width, is_text, pair_indices
from mayrows.errors import InvalidOperation, InvalidTable, TooMany
from mayrows.row.rows import Mayrow, check_row, following_sets
from mayrows.table.searches import layers_to, pairs_in
from mayrows.table.states import BOTH, EITHER, FIRST_ONLY, least_rows, paired_rows

MAX_STATES = 60
# A mayrow has its own MAX_STATES; a name is bound only once in a file.
MAX_ROW_STATES = 6


class Table:
    """Which pairs a mayrow, or another thing that answers, has."""

    def __init__(self, reads, writes, rows):
        # Whoever calls this passes the least rows, numbered as they are met.
        self._reads = reads
        self._writes = writes
        self._rows = rows

    @classmethod
    def of(cls, row):
        """The table with the pairs of a mayrow."""
        check_row(row)
        follows = following_sets(row.reads, row.writes, row.states, row.choices)
        lasts = mask_of(row.lasts)
        rows = [(states & lasts != 0, tuple([sets[states] for sets in follows])) for states in range(1 << row.states)]
        return cls(row.reads, row.writes, least_rows(rows, MAX_STATES, 1))

    @classmethod
    def told(cls, reads, writes, rows):
        """The table with the pairs that the rows tell."""
        check_number(reads, 1, 2)
        check_number(writes, 1, 2)
        if not isinstance(rows, tuple) or not is_number(len(rows), 1, MAX_STATES):
            raise InvalidTable("a table has a tuple of 1 to 60 rows")
        if not all([_is_table_row(row, 1 << (reads + writes), len(rows)) for row in rows]):
            raise InvalidTable("a row of a table has a boolean and the next states")
        return cls(reads, writes, least_rows(rows, MAX_STATES))

    @property
    def reads(self):
        """The number of its read lines."""
        return self._reads

    @property
    def writes(self):
        """The number of its written lines."""
        return self._writes

    @property
    def rows(self):
        """Its rows [3.1]."""
        return self._rows

    def pairs(self, width):
        """A generator of all pairs of this width, ascending."""
        check_width(width)
        layers = layers_to(self._rows, width)
        for pair in pairs_in(self._rows, self._writes, layers):
            yield pair

    def as_row(self):
        """The mayrow that takes the steps of the table."""
        if len(self._rows) > MAX_ROW_STATES:
            raise TooMany(MAX_ROW_STATES)
        said = (1 << self._writes) - 1
        choices = [(state, index >> self._writes, index & said, following)
                   for state, (last, nexts) in enumerate(self._rows) for index, following in enumerate(nexts)]
        lasts = [state for state, (last, nexts) in enumerate(self._rows) if last]
        return Mayrow(self._reads, self._writes, len(self._rows), tuple(choices), tuple(lasts))

    def __or__(self, other):
        return _joined(self, other, EITHER)

    def __and__(self, other):
        return _joined(self, other, BOTH)

    def __sub__(self, other):
        return _joined(self, other, FIRST_ONLY)

    def __invert__(self):
        return Table(self._reads, self._writes, tuple([(not last, nexts) for last, nexts in self._rows]))

    def __contains__(self, value):
        if not is_pair(value, self._reads, self._writes):
            return False
        return self._rows[state_behind(self._rows, self._writes, value[0], value[1])][0]

    def __len__(self):
        return len(self._rows)

    def __bool__(self):
        return any([last for last, nexts in self._rows])

    def __eq__(self, other):
        return (isinstance(other, Table) and self._reads == other._reads and self._writes == other._writes
                and self._rows == other._rows)

    def __str__(self):
        return f"table of {len(self._rows)} states"


def check_table(table):
    """Raise `InvalidTable` unless `table` is a table."""
    if not isinstance(table, Table):
        raise InvalidTable("this is no table")


def check_alike(table, other_table):
    """Raise `InvalidOperation` unless both tables read as many lines, and write as many."""
    if table.reads != other_table.reads or table.writes != other_table.writes:
        raise InvalidOperation("the tables have unlike numbers of lines")


def is_pair(value, reads, writes):
    """Whether the value is a tuple of a question and an answer text of one width."""
    if not isinstance(value, tuple) or len(value) != 2:
        return False
    if not is_text(value[0], 1 << reads) or not is_text(value[1], 1 << writes):
        return False
    return len(value[0]) == len(value[1])


def state_behind(rows, writes, question, answer, state=0):
    """The state to which a pair leads from a state, or from state 0."""
    for index in pair_indices(question, answer, writes):
        state = rows[state][1][index]
    return state


def _is_table_row(row, many, states):
    """Whether `row` is a pair of a boolean and a tuple of so many states."""
    if not isinstance(row, tuple) or len(row) != 2 or not isinstance(row[0], bool):
        return False
    return is_tuple_below(row[1], [states] * many)


def _joined(table, other_table, held):
    """The table whose pairs are told by `held`: by whether either table has them."""
    if not isinstance(other_table, Table):
        raise TypeError("a table is joined with tables alone")
    check_alike(table, other_table)
    rows = paired_rows(table.rows, other_table.rows, held)
    return Table(table.reads, table.writes, least_rows(rows, MAX_STATES))
