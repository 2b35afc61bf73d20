"""How many answers a question has, how many pairs a table has, and recurrences [6.1 to 6.3]."""

from mayrows.base.checks import is_integer
from mayrows.base.texts import check_text, check_width
from mayrows.count.rests import rest_counts
from mayrows.table.moves import Moves, few_moves
from mayrows.table.tables import check_table

MAX_USEFUL = 20
MAX_TERMS = 200


def count_answers(table, question):
    """How many answers the question has."""
    check_table(table)
    check_text(question, table.reads)
    return rest_counts(table.rows, table.writes, question)[0][0]


def count_pairs(table, width):
    """The number of the pairs of this width."""
    many = 0
    for number in pair_counts(table, width):
        many = number
    return many


def pair_counts(table, width):
    """A generator of the numbers of the pairs of the widths from 0 to this one."""
    check_table(table)
    check_width(width)
    moves = Moves(table)
    steps = _step_counts(moves)
    counts = _last_counts(moves)
    for wider in range(width + 1):
        if wider:
            counts = _longer_counts(steps, counts)
        yield _pair_count(counts)


def recurrence(table):
    """A recurrence of the table, as long as it has useful states."""
    return _recurrence_of(_step_counts(few_moves(table, MAX_USEFUL)))


def is_recurrence(table, value):
    """Whether the value is a recurrence of the table."""
    check_table(table)
    if not isinstance(value, tuple) or len(value) > MAX_TERMS or not all([is_integer(term) for term in value]):
        return False
    moves = Moves(table)
    many, terms = len(moves.useful), len(value)
    numbers = _first_pair_counts(moves, terms + many)
    # Where the equation holds for as many widths as there are useful states, it holds without end [6.3].
    return all([numbers[width] == sum([term * numbers[width - 1 - at] for at, term in enumerate(value)])
                for width in range(terms, terms + many)])


def _first_pair_counts(moves, many):
    """The list of so many numbers p(0), p(1) and so on."""
    steps = _step_counts(moves)
    counts = _last_counts(moves)
    numbers = []
    while len(numbers) < many:
        numbers.append(_pair_count(counts))
        counts = _longer_counts(steps, counts)
    return numbers


def _step_counts(moves):
    """For each useful state the tuple of how many moves lead from it to each one."""
    many = len(moves.useful)
    steps = [[0] * many for _ in range(many)]
    for row in moves.by_letter:
        for place, found in enumerate(row):
            for _, following in found:
                steps[place][following] += 1
    return steps


def _last_counts(moves):
    """For each useful state how many pairs of the width 0 lead from it to a last one."""
    return [int(place in moves.last_places) for place in range(len(moves.useful))]


def _longer_counts(steps, counts):
    """The same for the next width."""
    return [sum([many * count for many, count in zip(row, counts) if many]) for row in steps]


def _pair_count(counts):
    """The number of pairs that lead from state 0, which is the first useful one, if there are any."""
    return counts[0] if counts else 0


def _recurrence_of(steps):
    """The recurrence that the characteristic polynomial of these numbers of moves tells.

    It is worked out as by Faddeev and Leverrier, where all divisions leave no rest.
    """
    many = len(steps)
    rest = [[int(at == place) for at in range(many)] for place in range(many)]
    terms = []
    for number in range(1, many + 1):
        columns = [[row[at] for row in rest] for at in range(many)]
        found = [[sum([one * other for one, other in zip(row, column)]) for column in columns] for row in steps]
        term = sum([found[place][place] for place in range(many)]) // number
        terms.append(term)
        rest = [[found[place][at] - (term if at == place else 0) for at in range(many)] for place in range(many)]
    return tuple(terms)
