"""Walks through the useful states of a table: least questions by which several of them lead where they shall.

States are told by their places among the useful ones, as in `Moves`.
"""


class Walkers:
    """Walks side by side over one question: a node has the place of each one.

    `masks` tell for each walk, as a bit mask, through which places it may go.
    """

    def __init__(self, moves, masks):
        self._moves = moves
        self._masks = masks
        self.letters = moves.letters

    def nodes_by(self, node, letter):
        """A list of (answer letters, node) for each node to which the letter leads."""
        found = [((), ())]
        for place, mask in zip(node, self._masks):
            steps = [step for step in self._moves.by_letter[letter][place] if mask >> step[1] & 1]
            found = [(said + (answer,), places + (following,))
                     for said, places in found for answer, following in steps]
        return found


class Couples:
    """Two walks over one question: a node has both places, and a mark that is 1 as soon as their answers differ."""

    def __init__(self, moves):
        self._moves = moves
        self.letters = moves.letters

    def nodes_by(self, node, letter):
        """A list of (answer letters, node) for each node to which the letter leads."""
        row = self._moves.by_letter[letter]
        place, other_place, mark = node
        return [((answer, other), (following, other_following, int(mark == 1 or answer != other)))
                for answer, following in row[place] for other, other_following in row[other_place]]


def least_walk(graph, start, goals):
    """The texts of a walk of one letter or more from a node to one of the goals, and the goal; `None` without one.

    The texts are the question, which is the least one, and the answer texts.
    """
    befores = {start: None}
    # Each group has the nodes to which one question leads, and no lesser one.
    groups = [[start]]
    at = 0
    while at < len(groups):
        nodes = groups[at]
        for letter in range(graph.letters):
            group = []
            for node in nodes:
                for said, following in graph.nodes_by(node, letter):
                    if following in goals:
                        return _texts_to(befores, node, (letter,) + said), following
                    if following not in befores:
                        befores[following] = (node, (letter,) + said)
                        group.append(following)
            if group:
                groups.append(group)
        at += 1
    return None


def way_to(moves, start, goals):
    """The least question, and an answer text, that lead from a place to one of the goals; perhaps empty ones."""
    if start in goals:
        return ("", "")
    every = (1 << len(moves.useful)) - 1
    return least_walk(Walkers(moves, (every,)), (start,), {(goal,): True for goal in goals})[0]


def reached_places(moves):
    """For each place, as a bit mask, the places to which questions of one letter or more lead from it."""
    reached = [0] * len(moves.useful)
    for row in moves.by_letter:
        for place, steps in enumerate(row):
            for _, following in steps:
                reached[place] = reached[place] | 1 << following
    places = range(len(moves.useful))
    for between in places:
        for place in places:
            if reached[place] >> between & 1:
                reached[place] = reached[place] | reached[between]
    return reached


def _texts_to(befores, node, marks):
    """The texts of the walk that comes to a node and then takes one more letter and its answer letters."""
    rows = [marks]
    before = befores[node]
    while before is not None:
        rows.append(before[1])
        before = befores[before[0]]
    return tuple(["".join([str(row[at]) for row in rows[::-1]]) for at in range(len(marks))])
