"""How the number of answers grows with the width [9.1 to 9.4]."""

from mayrows.base.texts import check_width
from mayrows.count.questions import QuestionVectors, met_vectors
from mayrows.count.vectors import MAX_VECTORS
from mayrows.errors import TooMany
from mayrows.grow.ways import Passages, doubling_of
from mayrows.table.moves import few_moves
from mayrows.table.tables import check_table

MAX_GROWN = 12


def growth(table):
    """How the table grows: `("most", k)`, `("power", d)` or `("doubling",)`."""
    moves = few_moves(table, MAX_GROWN)
    if doubling_of(moves) is not None:
        return ("doubling",)
    power = Passages(moves).power()
    if power:
        return ("power", power)
    return ("most", most_told(table)[0])


def most_answers(table):
    """The greatest number of answers of a question, or `None` if there is none."""
    found = growth(table)
    return found[1] if found[0] == "most" else None


def greatest(table, width):
    """The greatest number of answers of a question of this width, and the least question that has so many."""
    check_table(table)
    check_width(width)
    vectors = QuestionVectors(table)
    # The vectors of one width with their least questions, in the order of these.
    layer = {vectors.first_vector(): ""}
    for _ in range(width):
        layer = _wider_layer(vectors, layer)
    found = [(vectors.answers_told(vector), question) for vector, question in layer.items()]
    many = max([answers for answers, question in found])
    return many, min([question for answers, question in found if answers == many])


def most_told(table):
    """Of a table that grows as most k: k, the least question with k answers, and the list of all vectors.

    More than 2000 of these raise `TooMany`.
    """
    vectors = QuestionVectors(table)
    most, widest, met = 0, "", []
    for question, vector in met_vectors(vectors):
        if len(met) == MAX_VECTORS:
            raise TooMany(MAX_VECTORS)
        met.append(vector)
        answers = vectors.answers_told(vector)
        if answers > most:
            most, widest = answers, question
    return most, widest, met


def _wider_layer(vectors, layer):
    wider = {}
    for vector, question in layer.items():
        for letter, following in enumerate(vectors.vectors_after(vector)):
            wider.setdefault(following, question + str(letter))
        if len(wider) > MAX_VECTORS:
            raise TooMany(MAX_VECTORS)
    return wider
