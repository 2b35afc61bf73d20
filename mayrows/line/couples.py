"""Couples: what two pairs that agree on some lines come to [12.4].

States are told by their places among the useful ones. Lines are told as a bit mask, and so are the digits that a
move has on all lines.
"""


class CoupleSteps:
    """The steps between couples by which both pairs have the same digits on some lines."""

    def __init__(self, moves, reads, agreed):
        self._agreed = agreed
        # For each place its moves (letter, answer letter, place behind it, digits).
        self._moves = [_moves_from(moves, reads, place) for place in range(len(moves.useful))]
        # The same by their digits on the agreed lines, since only moves with like ones make a step.
        self._groups = [_by_digits(rows, agreed) for rows in self._moves]
        self._known = {}

    def steps_between(self, couple):
        """A list of triples (marks, parted lines, couple): the marks are both letters with their answer letters."""
        if couple not in self._known:
            group = self._groups[couple[1]]
            self._known[couple] = [((letter, answer, other, other_answer), digits ^ other_digits, (place, other_place))
                                   for letter, answer, place, digits in self._moves[couple[0]]
                                   for other, other_answer, other_place, other_digits
                                   in group.get(digits & self._agreed, [])]
        return self._known[couple]


class PartingSteps:
    """The same steps for couples with a third member, which is 1 as soon as a line was parted."""

    def __init__(self, steps, line):
        self._steps = steps
        self._line = line

    def steps_from(self, node):
        """A list of pairs (marks, node) for each step."""
        return [(marks, couple + (node[2] | parted >> self._line & 1,))
                for marks, parted, couple in self._steps.steps_between(node[:2])]


def _moves_from(moves, reads, place):
    return [(letter, answer, following, letter | answer << reads)
            for letter, row in enumerate(moves.by_letter) for answer, following in row[place]]


def _by_digits(rows, agreed):
    groups = {}
    for row in rows:
        groups.setdefault(row[3] & agreed, []).append(row)
    return groups
