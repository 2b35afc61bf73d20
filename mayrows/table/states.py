"""The rows of tables, also of such that are not the least ones [3.1, 3.2].

Here rows are a sequence of pairs (last, nexts), as in a table.
"""

from mayrows.base.reach import reached_from
from mayrows.errors import TooMany

# Which pairs (first is a last state, second is a last state) make a pair of states a last one.
EITHER = ((True, False), (False, True), (True, True))
BOTH = ((True, True),)
FIRST_ONLY = ((True, False),)
ONE_ONLY = ((True, False), (False, True))


def met_states(rows, start=0):
    """The states that are reached from the first one, in the order in which they are met."""
    return reached_from([nexts for last, nexts in rows], start)


def met_rows(rows, start=0):
    """The rows of the met states alone, numbered as they are met."""
    met = met_states(rows, start)
    places = {state: place for place, state in enumerate(met)}
    return [(rows[state][0], tuple([places[following] for following in rows[state][1]])) for state in met]


def least_rows(rows, most, start=0):
    """The rows of the least table with these pairs; more than `most` of them raise `TooMany`."""
    met = met_rows(rows, start)
    kinds = _kinds(met, most)
    firsts = {}
    for state, kind in enumerate(kinds):
        firsts.setdefault(kind, state)
    # Kinds are numbered by their first states, and so in the order in which they are met themselves.
    return tuple([(met[state][0], tuple([kinds[following] for following in met[state][1]]))
                  for state in list(firsts.values())])


def paired_rows(rows, other_rows, held):
    """The rows of all pairs of states: the pair (p, q) is the state p * len(other_rows) + q.

    A pair is a last state if `held` has the pair of whether its states are last ones.
    """
    many = len(other_rows)
    return [((last, other_last) in held,
             tuple([state * many + other for state, other in zip(nexts, other_nexts)]))
            for last, nexts in rows for other_last, other_nexts in other_rows]


def useful_in(rows):
    """For each state whether some pair leads from it to a last one [0.12]."""
    useful = [last for last, nexts in rows]
    many = -1
    while many != sum(useful):
        many = sum(useful)
        useful = [known or any([useful[state] for state in nexts]) for known, (last, nexts) in zip(useful, rows)]
    return useful


def _kinds(rows, most):
    """A number for each state, the same for states from which the same pairs lead to last states."""
    kinds = [int(last) for last, nexts in rows]
    many = 0
    while True:
        numbers = {}
        finer = []
        for kind, (last, nexts) in zip(kinds, rows):
            key = (kind, tuple([kinds[state] for state in nexts]))
            finer.append(numbers.setdefault(key, len(numbers)))
        if len(numbers) == many:
            return finer
        # Later rounds part the states further, so too many kinds stay too many.
        if len(numbers) > most:
            raise TooMany(most)
        many = len(numbers)
        kinds = finer
