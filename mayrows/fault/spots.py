"""Spots and bunches: what walks over a row with one broken cell come to [13.5, 13.6].

A set of pairs (state of the row, state of its table) is told by a tuple that has, for each state of the row, the
states of the table beside it as a bit mask.
"""

from mayrows.base.masks import mask_of, members_of, union_over


class Spots:
    """The spots of a row with a fault; the tracks are the question, the places that are not broken, and the answer."""

    def __init__(self, row, fault, table):
        self._row = row
        self._table = table
        self._by_row = _by_state(row)
        self._by_fault = _by_state(fault)
        self._lasts = row.lasts

    def first_node(self):
        """The spot ahead of the first letter."""
        return (0, 0, 0)

    def steps_from(self, spot):
        """A list of pairs (marks, spot) for each step; the middle mark is 0 for a step by the fault."""
        phase, state, held = spot
        steps = self._steps(phase, self._by_row[state], held, 1)
        if phase == 0:
            steps.extend(self._steps(1, self._by_fault[state], held, 0))
        return steps

    def bounds(self):
        """How many states the row has, and how many its table."""
        return (self._row.states, len(self._table.rows))

    def is_shown(self, spot):
        """Whether an answer of the broken row that is no answer of the row leads to the spot."""
        phase, state, held = spot
        return phase == 1 and state in self._lasts and not self._table.rows[held][0]

    def _steps(self, phase, choices, held, mark):
        nexts = self._table.rows[held][1]
        return [((letter, mark, answer), (phase, following, nexts[(letter << self._table.writes) + answer]))
                for _, letter, answer, following in choices]


class Bunches:
    """The bunches of a row with a fault, as pairs of a phase and a set; an empty set is none."""

    def __init__(self, row, fault, table):
        self._letters = 1 << row.reads
        self._by_row = _by_letter(row)
        self._by_fault = _by_letter(fault)
        self._states = row.states
        self._lasts = row.lasts
        self._last_states = mask_of([state for state, (last, _) in enumerate(table.rows) if last])
        self._other_states = mask_of([state for state, (last, _) in enumerate(table.rows) if not last])
        self._many = len(table.rows)
        # For each letter and answer letter, what follows each state of the table alone.
        self._singles = [[1 << nexts[index] for _, nexts in table.rows] for index in range(len(table.rows[0][1]))]
        self._writes = table.writes

    def first_node(self):
        """The bunch ahead of the first letter."""
        return (0, (1,) + (0,) * (self._states - 1))

    def steps_from(self, bunch):
        """A list of pairs (marks, bunch): the marks are a letter, and 0 for a step by the fault, 1 for others."""
        phase, held = bunch
        steps = []
        for letter in range(self._letters):
            steps.append(((letter, 1), (phase, self.set_after(held, letter, False))))
            if phase == 0:
                steps.append(((letter, 0), (1, self.set_after(held, letter, True))))
        return [step for step in steps if any(step[1][1])]

    def set_after(self, held, letter, is_broken):
        """The set to which the choices of the row, or of the fault, with this letter lead."""
        found = [0] * self._states
        choices = self._by_fault if is_broken else self._by_row
        for state, _, answer, following in choices[letter]:
            if held[state]:
                others = union_over(self._singles[(letter << self._writes) + answer], held[state])
                found[following] = found[following] | others
        return tuple(found)

    def set_before(self, wanted, letter):
        """The set of all pairs from which some choice of the row with this letter leads into the wanted set."""
        found = [0] * self._states
        for state, _, answer, following in self._by_row[letter]:
            singles = self._singles[(letter << self._writes) + answer]
            mask = mask_of([held for held, single in enumerate(singles) if single & wanted[following]])
            found[state] = found[state] | mask
        return tuple(found)

    def end_set(self, is_right):
        """The set of the pairs of a last state of the row and a last state of the table, or one that is none."""
        mask = self._last_states if is_right else self._other_states
        return tuple([mask if state in self._lasts else 0 for state in range(self._states)])

    def bounds(self):
        """How many states the row has, and how many its table."""
        return (self._states, self._many)

    def is_shown(self, bunch):
        """Whether the questions that lead to the bunch have answers of the broken row, and none of them is right."""
        phase, held = bunch
        return phase == 1 and meets(held, self.end_set(False)) and not meets(held, self.end_set(True))


def meets(held, other):
    """Whether two sets have a pair in common."""
    return any([one & two for one, two in zip(held, other)])


def pairs_of_set(held):
    """The ascending tuple of the pairs in a set."""
    return tuple([(state, other) for state, mask in enumerate(held) for other in members_of(mask)])


def set_of_pairs(pairs, states):
    """The set of these pairs, with so many states of the row."""
    return tuple([mask_of([other for one, other in pairs if one == state]) for state in range(states)])


def _by_state(row):
    """For each state the choices in it."""
    return [[choice for choice in row.choices if choice[0] == state] for state in range(row.states)]


def _by_letter(row):
    """For each letter the choices with it."""
    return [[choice for choice in row.choices if choice[1] == letter] for letter in range(1 << row.reads)]
