"""Plain rows that have the answer at a place: the vectors of texts, and ranks [7.5, 8.4].

Here states are told by their places among the useful ones.
"""

from mayrows.base.reach import Numbers
from mayrows.table.moves import Moves


def plain_sides(table, place, total, most):
    """What makes the plain row for a place: its `rights`, `starts` and `lefts`.

    A total one has the last answer where there are fewer. More than `most` vectors or ranks raise `TooMany`.
    """
    moves = Moves(table)
    vectors, rights = _text_vectors(moves, place + 1, most)
    lefts = _rank_rows(moves, vectors, place, total, most)
    least = 1 if total else place + 1
    starts = [right for right, vector in enumerate(vectors) if vector and vector[0] >= least]
    return rights, tuple(starts), lefts


def _text_vectors(moves, most_told, most):
    """The list of the vectors of all texts, and for each one the tuple of the places of those by one letter ahead."""
    numbers = Numbers(tuple([int(place in moves.last_places) for place in range(len(moves.useful))]), most)
    rows = []
    while len(rows) < len(numbers.met):
        vector = numbers.met[len(rows)]
        nexts = []
        for row in moves.by_letter:
            longer = [min(most_told, sum([vector[following] for _, following in steps])) for steps in row]
            nexts.append(numbers.number_of(tuple(longer)))
        rows.append(tuple(nexts))
    return numbers.met, tuple(rows)


def _rank_rows(moves, vectors, place, total, most):
    """The rows of the left states, one for each rank."""
    numbers = Numbers((0, place), most)
    lefts = []
    while len(lefts) < len(numbers.met):
        state, many = numbers.met[len(lefts)]
        row = []
        for letter in range(moves.letters):
            steps = moves.by_letter[letter][state] if moves.useful else ()
            led = [_led_on(steps, vector, many, total) for vector in vectors]
            # Where a rank is not led on, nothing is ever written: any entry will do.
            row.append(tuple([(answer, 0 if rank is None else numbers.number_of(rank)) for answer, rank in led]))
        lefts.append(tuple(row))
    return tuple(lefts)


def _led_on(steps, vector, many, total):
    """The answer letter and the rank to which a rank with this number is led on, or 0 and `None`."""
    rest = many
    for answer, following in steps:
        if rest < vector[following]:
            return answer, (following, rest)
        rest -= vector[following]
    passed = many - rest
    if total and passed:
        # There are no more than so many answers: the last one is taken.
        return _led_on(steps, vector, passed - 1, total)
    return 0, None
