"""Papers that show how a table grows [9.5]."""

from mayrows.base.checks import (MOST_INTEGER, are_ascending, are_numbers_below, are_tuples_below, is_integer,
                                 is_number, is_tuple_below)
from mayrows.base.texts import check_returned, is_text
from mayrows.count.counts import count_answers
from mayrows.count.questions import QuestionVectors
from mayrows.count.vectors import MAX_VECTORS
from mayrows.grow.bounds import heights_of, numbers_of, triples_after, triples_of
from mayrows.grow.growth import most_told
from mayrows.grow.ways import Passages, doubling_of
from mayrows.table.moves import few_moves
from mayrows.table.tables import is_pair, state_behind
from mayrows.table.walks import reached_places, way_to

MAX_SHOWN = 9


def growth_paper(table):
    """A paper that shows how the table grows."""
    moves = few_moves(table, MAX_SHOWN)
    doubling = doubling_of(moves)
    if doubling is not None:
        place, texts = doubling
        return ("doubling", way_to(moves, 0, (place,)), texts, way_to(moves, place, moves.last_places))
    passages = Passages(moves)
    if passages.power():
        return _power_paper(moves, passages)
    number, question, vectors = most_told(table)
    check_returned(question)
    return ("most", number, question, tuple(sorted(vectors)))


def is_growth_paper(table, value):
    """Whether the value is a growth paper of the table."""
    moves = few_moves(table, MAX_SHOWN)
    if not isinstance(value, tuple) or len(value) == 0:
        return False
    if value[0] == "most":
        return len(value) == 4 and _is_most(table, value[1], value[2], value[3])
    if value[0] == "power":
        return len(value) == 5 and _are_steps(table, value[1]) and _is_bound(moves, len(value[1]) // 2, value[2:])
    return value[0] == "doubling" and len(value) == 4 and _is_doubling(table, value[1], value[2], value[3])


def _power_paper(moves, passages):
    steps = []
    place = 0
    for first, second, texts in passages.chain():
        steps.extend([way_to(moves, place, (first,)), texts])
        place = second
    steps.append(way_to(moves, place, moves.last_places))
    ranks = passages.ranks()
    numbers = [(tuple([moves.useful[one] for one in triple]), number)
               for triple, number in numbers_of(moves, ranks).items()]
    return ("power", tuple(steps), ranks, heights_of(reached_places(moves)), tuple(sorted(numbers)))


def _is_most(table, number, question, vectors):
    """Whether these make a paper that no question has more answers than the number, and the question has so many."""
    if not is_number(number, 0, MOST_INTEGER) or not is_text(question, 1 << table.reads):
        return False
    return count_answers(table, question) == number and _are_vectors(QuestionVectors(table), number, vectors)


def _are_vectors(made, number, vectors):
    """Whether these are closed vectors, none of which tells more answers than the number."""
    many = len(made.first_vector())
    if not isinstance(vectors, tuple) or len(vectors) > MAX_VECTORS:
        return False
    if not are_tuples_below(vectors, [MOST_INTEGER + 1] * many) or not are_ascending(vectors):
        return False
    known = set(vectors)
    if made.first_vector() not in known:
        return False
    for vector in vectors:
        if made.answers_told(vector) > number:
            return False
        if not all([following in known for following in made.vectors_after(vector)]):
            return False
    return True


def _is_doubling(table, begin, middle, end):
    """Whether these show that the table doubles: a way, two answers that lead back, and a way to a last state."""
    if not is_pair(begin, table.reads, table.writes) or not is_pair(end, table.reads, table.writes):
        return False
    if not _is_loop(table, middle, 2) or middle[1] == middle[2]:
        return False
    state = state_behind(table.rows, table.writes, begin[0], begin[1])
    behind = [state_behind(table.rows, table.writes, middle[0], answer, state) for answer in middle[1:]]
    # A state from which some pair leads to a last one is useful, and so are all states on the way to it.
    return behind == [state, state] and table.rows[state_behind(table.rows, table.writes, end[0], end[1], state)][0]


def _are_steps(table, steps):
    """Whether these are ways and loops in turn that lead from state 0 to a last state."""
    if not isinstance(steps, tuple) or len(steps) < 3 or not len(steps) & 1:
        return False
    state = 0
    for at, step in enumerate(steps):
        if at & 1:
            following = _state_behind_loop(table, step, state)
        else:
            following = _state_behind_way(table, step, state)
        if following is None:
            return False
        state = following
    return table.rows[state][0]


def _state_behind_way(table, step, state):
    """The state to which the way leads from a state, or `None` if it is none."""
    if not is_pair(step, table.reads, table.writes):
        return None
    return state_behind(table.rows, table.writes, step[0], step[1], state)


def _state_behind_loop(table, step, state):
    """The other state of the loop, or `None` if it is no loop at this state."""
    if not _is_loop(table, step, 3):
        return None
    question, one, two, three = step
    other = state_behind(table.rows, table.writes, question, two, state)
    if other == state or state_behind(table.rows, table.writes, question, one, state) != state:
        return None
    return other if state_behind(table.rows, table.writes, question, three, other) == other else None


def _is_loop(table, step, many):
    """Whether this is a tuple of a question and so many answer texts of its width."""
    if not isinstance(step, tuple) or len(step) != many + 1:
        return False
    return all([is_pair((step[0], answer), table.reads, table.writes) for answer in step[1:]])


def _is_bound(moves, power, value):
    """Whether these are ranks, heights and numbers that show that no question has more answers than this power."""
    ranks, heights, numbers = value
    many = len(moves.useful)
    if not is_tuple_below(ranks, [power + 1] * many) or not is_tuple_below(heights, [MOST_INTEGER + 1] * many):
        return False
    for row in moves.by_letter:
        for place, steps in enumerate(row):
            nexts = [following for _, following in steps]
            if not all([ranks[place] <= ranks[following] for following in nexts]):
                return False
            # Moves to one place are parallel, and the height falls along them.
            falls = [int(nexts.count(following) > 1) for following in nexts]
            if not all([heights[following] + fall <= heights[place] for following, fall in zip(nexts, falls)]):
                return False
    return _are_numbers(moves, ranks, numbers)


def _are_numbers(moves, ranks, numbers):
    """Whether these are the numbers of the triples of states of one rank."""
    triples = triples_of(ranks)
    if not isinstance(numbers, tuple) or len(numbers) != len(triples):
        return False
    told = {}
    for triple, pair in zip(triples, numbers):
        if not isinstance(pair, tuple) or len(pair) != 2 or not is_integer(pair[1]):
            return False
        # Useful states ascend with their places, so there is just one right order.
        if not are_numbers_below(pair[0], moves.useful[-1] + 1):
            return False
        if pair[0] != tuple([moves.useful[place] for place in triple]):
            return False
        told[triple] = pair[1]
    return all([_is_falling(moves, ranks, told, triple) for triple in triples])


def _is_falling(moves, ranks, told, triple):
    """Whether the numbers of a triple and of those behind it are as they must be."""
    one, two, three = triple
    if one == two and two != three and told[(one, three, three)] <= told[triple]:
        return False
    return all([told[following] <= told[triple] for following in triples_after(moves, ranks, triple)])
