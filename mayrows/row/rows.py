"""Mayrows: their answers and their walks [0.10]."""

from mayrows.base.checks import are_lines, are_numbers_below, are_tuples_below, are_unlike, is_number, is_tuple_below
from mayrows.base.masks import all_unions, mask_of
from mayrows.base.texts import check_text, pair_indices
from mayrows.errors import InvalidRow, TooMany

MAX_STATES = 6
MAX_CHOICES = 576
MAX_ANSWERS = 1000


class Mayrow:
    """A row of like cells that reads a question and may write one of several answers."""

    def __init__(self, reads, writes, states, choices, lasts):
        if not are_lines(reads, writes) or not is_number(states, 1, MAX_STATES):
            raise InvalidRow("a row has one or two lines of each kind, and 1 to 6 states")
        if not _are_choices(choices, reads, writes, states) or not _are_lasts(lasts, states):
            raise InvalidRow("the choices or the last states are none of a row")
        self._reads = reads
        self._writes = writes
        self._states = states
        self._choices = tuple(sorted(choices))
        self._lasts = tuple(sorted(lasts))
        self._follows = following_sets(reads, writes, states, choices)

    @property
    def reads(self):
        """The number of its read lines."""
        return self._reads

    @property
    def writes(self):
        """The number of its written lines."""
        return self._writes

    @property
    def states(self):
        """The number of its states."""
        return self._states

    @property
    def choices(self):
        """Its choices, ascending."""
        return self._choices

    @property
    def lasts(self):
        """Its last states, ascending."""
        return self._lasts

    def answers(self, question):
        """All answers of the question, ascending."""
        check_text(question, self._reads)
        steps = [letter_sets(self._follows, self._writes, letter) for letter in question]
        return written_texts(steps, self._states, self._lasts)

    def is_answer(self, question, answer):
        """Whether the question has this answer."""
        check_text(question, self._reads)
        check_text(answer, self._writes)
        if len(question) != len(answer):
            return False
        states = 1
        for index in pair_indices(question, answer, self._writes):
            states = self._follows[index][states]
        return states & mask_of(self._lasts) != 0

    def walks(self, question):
        """The number of the walks over the question that end in a last state."""
        check_text(question, self._reads)
        walks = [1] + [0] * (self._states - 1)
        for mark in question:
            longer = [0] * self._states
            for state, letter, _, following in self._choices:
                if letter == int(mark):
                    longer[following] = longer[following] + walks[state]
            walks = longer
        return sum([walks[state] for state in self._lasts])

    def also_with(self, *, choices=(), lasts=()):
        """The row that has these choices and last states, too."""
        if not _are_choices(choices, self._reads, self._writes, self._states):
            raise InvalidRow("the choices are none of this row")
        if not _are_lasts(lasts, self._states):
            raise InvalidRow("the last states are none of this row")
        all_choices = tuple(sorted(set(self._choices + choices)))
        all_lasts = tuple(sorted(set(self._lasts + lasts)))
        return Mayrow(self._reads, self._writes, self._states, all_choices, all_lasts)

    def __eq__(self, other):
        return (isinstance(other, Mayrow) and self._reads == other._reads and self._writes == other._writes
                and self._states == other._states and self._choices == other._choices
                and self._lasts == other._lasts)

    def __len__(self):
        return len(self._choices)

    def __contains__(self, value):
        bounds = _choice_bounds(self._reads, self._writes, self._states)
        return is_tuple_below(value, bounds) and value in self._choices

    def __iter__(self):
        return iter(self._choices)

    def __str__(self):
        return f"mayrow from {self._reads} to {self._writes} lines, {self._states} states, {len(self._choices)} choices"


def check_row(row):
    """Raise `InvalidRow` unless `row` is a mayrow."""
    if not isinstance(row, Mayrow):
        raise InvalidRow("this is no mayrow")


def following_sets(reads, writes, states, choices):
    """What follows each set of states by each letter and answer letter, sets as bit masks.

    The letter x and the answer letter y have the index x * 2 ** writes + y, as in a table; behind it stands
    a tuple with the set that follows each set.
    """
    singles = [[0] * states for _ in range(1 << (reads + writes))]
    for state, letter, answer, following in choices:
        row = singles[(letter << writes) + answer]
        row[state] = row[state] | 1 << following
    return tuple([all_unions(row) for row in singles])


def letter_sets(follows, writes, letter):
    """What follows each set of states by a letter: the part of `following_sets` with all its answer letters."""
    first = int(letter) << writes
    return follows[first:first + (1 << writes)]


def written_texts(steps, states, lasts):
    """All texts that are written by walks to a last state, ascending; `steps` has `letter_sets` for each place."""
    # For each place, and behind it, the states from which the rest leads to a last one.
    hopes = [mask_of(lasts)]
    for row in steps[::-1]:
        hope = hopes[-1]
        hopes.append(mask_of([state for state in range(states) if any([sets[1 << state] & hope for sets in row])]))
    found = [("", 1)] if hopes[-1] & 1 else []
    for row, hope in zip(steps, hopes[-2::-1]):
        longer = [(text + str(mark), sets[held] & hope) for text, held in found for mark, sets in enumerate(row)]
        found = [(text, held) for text, held in longer if held]
        # Each text here is the begin of at least one answer, and no answer has two of them.
        if len(found) > MAX_ANSWERS:
            raise TooMany(MAX_ANSWERS)
    return tuple([text for text, _ in found])


def _are_choices(choices, reads, writes, states):
    # There are no more than this many unlike choices, so a longer tuple need not be looked through.
    if not isinstance(choices, tuple) or len(choices) > MAX_CHOICES:
        return False
    return are_tuples_below(choices, _choice_bounds(reads, writes, states)) and are_unlike(choices)


def _are_lasts(lasts, states):
    return are_numbers_below(lasts, states) and are_unlike(lasts)


def _choice_bounds(reads, writes, states):
    return (states, 1 << reads, 1 << writes, states)
