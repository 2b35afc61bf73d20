"""The tables of plain rows: the sets of pairs of texts [7.4], for one plain row or for several ones at once [8.1].

Here a set is a tuple with the left state beside each right state, or -1 if there is none.
"""

from mayrows.base.reach import Numbers
from mayrows.least.sides import met_rights, rights_before


class Sets:
    """The sets of one plain row, and how they follow one another."""

    def __init__(self, passes):
        self._rights = passes.rights
        self._starts = passes.starts
        self._lefts = passes.lefts
        self._letters = 1 << passes.reads
        self._answers = 1 << passes.writes
        self._befores = rights_before(passes.rights)
        # The same set comes again and again, beside other sets.
        self._known = {}

    def first_set(self):
        """The set of the pair of empty texts."""
        met = met_rights(self._rights)
        return tuple([0 if right in met and right in self._starts else -1 for right in range(len(self._rights))])

    def sets_after(self, held):
        """The sets behind this one: for the letter x and the answer letter y at the index x * 2 ** writes + y."""
        if held not in self._known:
            self._known[held] = self._sets_after(held)
        return self._known[held]

    def _sets_after(self, held):
        found = [[-1] * len(held) for _ in range(self._letters * self._answers)]
        for right, left in enumerate(held):
            if left >= 0:
                for letter, further in self._befores[right]:
                    answer, following = self._lefts[left][letter][further]
                    found[letter * self._answers + answer][further] = following
        return tuple([tuple(longer) for longer in found])


def graph_rows(plain, most):
    """The rows that have a state for each met tuple of sets; more than `most` tuples raise `TooMany`."""
    sides = [Sets(passes) for passes in plain]
    numbers = Numbers(tuple([side.first_set() for side in sides]), most)
    rows = []
    while len(rows) < len(numbers.met):
        held = numbers.met[len(rows)]
        nexts = [numbers.number_of(following) for following in _tuples_after(sides, held)]
        # Behind the whole question stands the right state 0.
        rows.append((any([one[0] >= 0 for one in held]), tuple(nexts)))
    return rows


def _tuples_after(sides, held):
    """The tuples of sets behind this one, in the order of the indices."""
    columns = [side.sets_after(one) for side, one in zip(sides, held)]
    return [tuple([column[index] for column in columns]) for index in range(len(columns[0]))]
