"""Plain rows: they note from the right end, and write from the left one [7.2 to 7.7]."""

from mayrows.base.checks import (are_ascending, are_lines, are_numbers_below, are_tuples_below, check_number,
                                 is_number, is_tuple_below)
from mayrows.base.texts import check_returned, check_text, is_text
from mayrows.errors import InvalidOperation, InvalidPasses, TooMany
from mayrows.least.closures import Quadruples, Triples, are_closed, met_nodes
from mayrows.least.graphs import graph_rows
from mayrows.least.ranks import plain_sides
from mayrows.table.ends import MAX_SETS
from mayrows.table.states import least_rows
from mayrows.table.tables import MAX_STATES, Table, check_table

MAX_SIDE = 60
MAX_PLACE = 3
MAX_MET = 5000


class Passes:
    """A plain row, which has at most one answer to each question."""

    def __init__(self, reads, writes, rights, starts, lefts):
        if not are_lines(reads, writes) or not _are_rights(rights, 1 << reads):
            raise InvalidPasses("these are no lines, or no rows of right states")
        if not are_numbers_below(starts, len(rights)) or not are_ascending(starts):
            raise InvalidPasses("the plain row cannot start in these right states")
        if not _are_lefts(lefts, 1 << reads, 1 << writes, len(rights)):
            raise InvalidPasses("these are no rows of left states")
        self._reads = reads
        self._writes = writes
        self._rights = rights
        self._starts = starts
        self._lefts = lefts

    @classmethod
    def by_letters(cls, reads, writes, letters):
        """The plain row that answers each letter by itself."""
        if not are_lines(reads, writes) or not is_tuple_below(letters, [1 << writes] * (1 << reads)):
            raise InvalidPasses("there is not one answer letter for each letter")
        return cls(reads, writes, ((0,) * (1 << reads),), (0,), (tuple([((letter, 0),) for letter in letters]),))

    @property
    def reads(self):
        """The number of its read lines."""
        return self._reads

    @property
    def writes(self):
        """The number of its written lines."""
        return self._writes

    @property
    def rights(self):
        """The rows of its right states [7.2]."""
        return self._rights

    @property
    def starts(self):
        """The right states of the questions that it answers."""
        return self._starts

    @property
    def lefts(self):
        """The rows of its left states [7.3]."""
        return self._lefts

    def right_state(self, question):
        """The right state of the question."""
        check_text(question, self._reads)
        return _right_states(self._rights, question)[0]

    def __call__(self, question):
        check_text(question, self._reads)
        rights = _right_states(self._rights, question)
        if rights[0] not in self._starts:
            return None
        left = 0
        said = []
        for letter, right in zip(question, rights[1:]):
            answer, left = self._lefts[left][int(letter)][right]
            said.append(str(answer))
        return "".join(said)

    def __contains__(self, value):
        return is_text(value, 1 << self._reads) and _right_states(self._rights, value)[0] in self._starts

    def __len__(self):
        return len(self._rights + self._lefts)

    def __eq__(self, other):
        return (isinstance(other, Passes) and self._reads == other._reads and self._writes == other._writes
                and self._rights == other._rights and self._starts == other._starts and self._lefts == other._lefts)

    def __str__(self):
        return f"passes of {len(self._rights)} right and {len(self._lefts)} left states"


def graph_of(passes):
    """The table of all pairs of the plain row."""
    check_passes(passes)
    return Table(passes.reads, passes.writes, least_rows(graph_rows((passes,), MAX_SETS), MAX_STATES))


def plain_row(table, place):
    """A plain row that has the answers of the table at this place."""
    check_table(table)
    check_number(place, 0, MAX_PLACE)
    rights, starts, lefts = plain_sides(table, place, False, MAX_SIDE)
    return Passes(table.reads, table.writes, rights, starts, lefts)


def pass_paper(passes, table):
    """A paper on whether all answers of the plain row are answers of the table."""
    _check_both(passes, table)
    wrong, met = met_nodes(Triples(passes, table))
    if wrong is not None:
        check_returned(wrong[0])
        return ("wrong", wrong[0])
    _check_met(met)
    return ("within", tuple(sorted(met)))


def is_pass_paper(passes, table, value):
    """Whether the value is such a paper."""
    _check_both(passes, table)
    if not isinstance(value, tuple) or len(value) != 2:
        return False
    if value[0] == "wrong":
        return value[1] in passes and (value[1], passes(value[1])) not in table
    return value[0] == "within" and are_closed(Triples(passes, table), value[1], MAX_MET)


def first_paper(passes, table):
    """A paper on whether no answer of the table is ahead of the one of the plain row."""
    _check_both(passes, table)
    ahead, met = met_nodes(Quadruples(passes, table))
    if ahead is not None:
        check_returned(ahead[0])
        return ("ahead", ahead[0], ahead[1])
    _check_met(met)
    return ("first", tuple(sorted(met)))


def is_first_paper(passes, table, value):
    """Whether the value is such a paper."""
    _check_both(passes, table)
    if not isinstance(value, tuple):
        return False
    if len(value) == 3 and value[0] == "ahead":
        return value[1] in passes and value[1:] in table and value[2] < passes(value[1])
    return len(value) == 2 and value[0] == "first" and are_closed(Quadruples(passes, table), value[1], MAX_MET)


def check_passes(passes):
    """Raise `InvalidPasses` unless `passes` is a plain row."""
    if not isinstance(passes, Passes):
        raise InvalidPasses("this is no plain row")


def _check_both(passes, table):
    check_passes(passes)
    check_table(table)
    if passes.reads != table.reads or passes.writes != table.writes:
        raise InvalidOperation("the plain row and the table have unlike numbers of lines")


def _check_met(met):
    if len(met) > MAX_MET:
        raise TooMany(MAX_MET)


def _right_states(rights, question):
    """For each place of the question, and behind it, the right state of the text from there on."""
    states = [0]
    for letter in question[::-1]:
        states.append(rights[states[-1]][int(letter)])
    return states[::-1]


def _are_rights(value, letters):
    if not isinstance(value, tuple) or not is_number(len(value), 1, MAX_SIDE):
        return False
    return are_tuples_below(value, [len(value)] * letters)


def _are_lefts(value, letters, answers, rights):
    if not isinstance(value, tuple) or not is_number(len(value), 1, MAX_SIDE):
        return False
    return all([_are_entries(row, letters, (answers, len(value)), rights) for row in value])


def _are_entries(value, letters, bounds, rights):
    """Whether the value has an entry for each letter, with a pair below the bounds for each right state."""
    if not isinstance(value, tuple) or len(value) != letters:
        return False
    return all([are_tuples_below(entry, bounds) and len(entry) == rights for entry in value])
