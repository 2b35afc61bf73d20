"""The vectors of questions: how many answer texts lead with them to each useful state [6.4, 6.5, 9.2]."""

from mayrows.table.moves import Moves


class QuestionVectors:
    """The vectors of the questions of a table; no number is told greater than `most`, if this is not `None`."""

    def __init__(self, table, most=None):
        self._moves = Moves(table)
        self._most = most

    def first_vector(self):
        """The vector of the empty question."""
        return tuple([int(place == 0) for place in range(len(self._moves.useful))])

    def vectors_after(self, vector):
        """The vectors behind this one, by each letter."""
        return tuple([self._vector_after(vector, row) for row in self._moves.by_letter])

    def answers_told(self, vector):
        """How many answers the vector tells: the sum of its numbers of last states."""
        return sum([vector[place] for place in self._moves.last_places])

    def _vector_after(self, vector, row):
        numbers = [0] * len(vector)
        for number, steps in zip(vector, row):
            if number:
                for _, following in steps:
                    numbers[following] += number
        if self._most is None:
            return tuple(numbers)
        return tuple([min(number, self._most) for number in numbers])


def met_vectors(vectors):
    """A generator of the pairs (question, vector) of the met vectors, each one with its least question."""
    met = [("", vectors.first_vector())]
    known = {met[0][1]: True}
    at = 0
    while at < len(met):
        question, vector = met[at]
        yield question, vector
        for letter, following in enumerate(vectors.vectors_after(vector)):
            if following not in known:
                known[following] = True
                met.append((question + str(letter), following))
        at += 1
