"""The moves between the useful states of a table [0.12, 9.1]."""

from mayrows.errors import TooMany
from mayrows.table.ends import useful_states


class Moves:
    """The moves of a table.

    A useful state is told by its place among all of them. The first one is state 0, if there are any.
    """

    def __init__(self, table):
        kept = useful_states(table)
        places = {state: place for place, state in enumerate(kept)}
        self.useful = kept
        self.last_places = tuple([places[state] for state in kept if table.rows[state][0]])
        self.letters = 1 << table.reads
        # For each letter and each place the pairs (answer letter, place behind it), ascending.
        self.by_letter = tuple([tuple([_steps(table, places, state, letter) for state in kept])
                                for letter in range(self.letters)])


def few_moves(table, most):
    """The moves of a table; an error if it is none, or if it has more than `most` useful states."""
    moves = Moves(table)
    if len(moves.useful) > most:
        raise TooMany(most)
    return moves


def _steps(table, places, state, letter):
    nexts = table.rows[state][1][letter << table.writes:(letter + 1) << table.writes]
    return tuple([(answer, places[following]) for answer, following in enumerate(nexts) if following in places])
