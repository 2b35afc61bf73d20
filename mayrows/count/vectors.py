"""How many questions have a number of answers, and the least one of them [6.4 to 6.6]."""

from mayrows.base.checks import check_boolean, check_number
from mayrows.base.texts import check_returned, check_width
from mayrows.count.questions import QuestionVectors, met_vectors
from mayrows.errors import TooMany
from mayrows.table.tables import check_table

MAX_NUMBER = 100
MAX_VECTORS = 2000


def questions_with(table, number, width, *, at_least=False):
    """How many questions of this width have just so many answers, or at least so many."""
    check_table(table)
    check_number(number, 0, MAX_NUMBER)
    check_width(width)
    check_boolean(at_least)
    vectors = QuestionVectors(table, number + 1)
    # The same vectors come again and again at many widths.
    known = {}
    layer = {vectors.first_vector(): 1}
    for _ in range(width):
        layer = _wider_layer(vectors, layer, known)
    return sum([many for vector, many in layer.items() if _fits(vectors.answers_told(vector), number, at_least)])


def least_with(table, number, *, at_least=False):
    """The least question that has just so many answers, or at least so many, or `None`."""
    check_table(table)
    check_number(number, 0, MAX_NUMBER)
    check_boolean(at_least)
    vectors = QuestionVectors(table, number + 1)
    many = 0
    for question, vector in met_vectors(vectors):
        if many == MAX_VECTORS:
            raise TooMany(MAX_VECTORS)
        if _fits(vectors.answers_told(vector), number, at_least):
            check_returned(question)
            return question
        many += 1
    return None


def _fits(answers, number, at_least):
    return answers == number or (at_least and answers > number)


def _wider_layer(vectors, layer, known):
    """How many questions of the next width have each vector; `known` keeps what follows each vector."""
    wider = {}
    for vector, many in layer.items():
        if vector not in known:
            known[vector] = vectors.vectors_after(vector)
        for following in known[vector]:
            wider[following] = wider.get(following, 0) + many
        if len(wider) > MAX_VECTORS:
            raise TooMany(MAX_VECTORS)
    return wider
