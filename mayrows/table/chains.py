"""How one table stands behind another: the sets that pairs of texts meet [4.3].

Here a set is a tuple with a bit mask for each state of the first table: the states of the second one beside it.
"""

from mayrows.base.masks import mask_of, union_over
from mayrows.errors import TooMany
from mayrows.table.states import useful_in


class Chain:
    """The sets of a table and one behind it, and how they follow one another."""

    def __init__(self, table, other_table):
        other_useful = useful_in(other_table.rows)
        self._rows = table.rows
        self._useful = useful_in(table.rows)
        self._begins = self._useful[0] and other_useful[0]
        self._betweens = 1 << table.writes
        self._answers = 1 << other_table.writes
        self._lasts = mask_of([state for state, (last, nexts) in enumerate(other_table.rows) if last])
        # For each letter between and each answer letter, what follows each state of the second table alone.
        self._singles = [[1 << nexts[index] if other_useful[nexts[index]] else 0 for last, nexts in other_table.rows]
                         for index in range(self._betweens * self._answers)]
        self._known = {}

    def first_set(self):
        """The set that the pair of empty texts meets."""
        return (int(self._begins),) + (0,) * (len(self._rows) - 1)

    def is_held(self, masks):
        """Whether a pair that meets this set is a pair of the second table behind the first one."""
        return any([last and mask & self._lasts != 0 for (last, nexts), mask in zip(self._rows, masks)])

    def set_after(self, masks, letter, answer):
        """The set that is met by one more letter and its answer letter."""
        found = [0] * len(masks)
        for state, mask in enumerate(masks):
            if mask:
                for between in range(self._betweens):
                    following = self._rows[state][1][letter * self._betweens + between]
                    if self._useful[following]:
                        others = self._others_behind(mask, between * self._answers + answer)
                        found[following] = found[following] | others
        return tuple(found)

    def _others_behind(self, mask, index):
        # The same masks come again and again, beside other states and in other sets.
        if (mask, index) not in self._known:
            self._known[(mask, index)] = union_over(self._singles[index], mask)
        return self._known[(mask, index)]


def chain_rows(table, other_table, most):
    """The rows that have a state for each met set; more than `most` sets raise `TooMany`."""
    chain = Chain(table, other_table)
    met = [chain.first_set()]
    places = {met[0]: 0}
    rows = []
    while len(rows) < len(met):
        masks = met[len(rows)]
        nexts = []
        for letter in range(1 << table.reads):
            for answer in range(1 << other_table.writes):
                following = chain.set_after(masks, letter, answer)
                if following not in places:
                    places[following] = len(met)
                    met.append(following)
                nexts.append(places[following])
        if len(met) > most:
            raise TooMany(most)
        rows.append((chain.is_held(masks), tuple(nexts)))
    return rows
