"""Unions of plain rows [8.1 to 8.5]."""

from mayrows.base.checks import check_boolean, check_number
from mayrows.base.texts import check_returned, is_text
from mayrows.count.counts import count_answers
from mayrows.count.questions import QuestionVectors, met_vectors
from mayrows.errors import InvalidOperation, TooMany
from mayrows.least.graphs import graph_rows
from mayrows.least.passes import MAX_SIDE, Passes, check_passes
from mayrows.least.ranks import plain_sides
from mayrows.least.sides import met_rights
from mayrows.table.states import least_rows
from mayrows.table.tables import MAX_STATES, Table, check_table

MOST_ROWS = 4
MOST_MET = 2000


def union_of(*rows):
    """The table of all pairs that one or more of the plain rows have."""
    for row in rows:
        check_passes(row)
    if len(rows) == 0 or not all([_has_lines(row, rows[0].reads, rows[0].writes) for row in rows]):
        raise InvalidOperation("there is no plain row, or some have unlike numbers of lines")
    return Table(rows[0].reads, rows[0].writes, least_rows(graph_rows(rows, MOST_MET), MAX_STATES))


def gap_of(passes):
    """The least question that the plain row does not answer, or `None`."""
    check_passes(passes)
    if all([right in passes.starts for right in met_rights(passes.rights)]):
        return None
    # For each right state the least text of one width that has it. Texts grow at their begins.
    texts = {0: ""}
    while True:
        gaps = [text for right, text in texts.items() if right not in passes.starts]
        if gaps:
            return min(gaps)
        texts = _wider_texts(passes.rights, texts)


def plain_rows(table, number, *, total=False):
    """Plain rows that have the first answers, the second ones, and so on; total ones repeat the last answer."""
    check_table(table)
    check_number(number, 0, MOST_ROWS)
    check_boolean(total)
    rows = tuple([_plain_row(table, place, total) for place in range(number)])
    if total and number and gap_of(rows[0]) is not None:
        raise InvalidOperation("some question has no answer")
    return rows


def is_union(table, value):
    """Whether the value is a tuple of none to four plain rows whose union is the table."""
    check_table(table)
    return _are_rows(value, MOST_ROWS) and _is_union(table, value)


def union_paper(table, number):
    """A paper on whether the table is the union of so many plain rows, or fewer."""
    check_table(table)
    check_number(number, 0, MOST_ROWS)
    vectors = QuestionVectors(table, number + 1)
    many = 0
    for question, vector in met_vectors(vectors):
        if vectors.answers_told(vector) > number:
            check_returned(question)
            return ("many", question)
        many += 1
        if many > MOST_MET:
            raise TooMany(MOST_MET)
    return ("rows", plain_rows(table, number))


def is_union_paper(table, number, value):
    """Whether the value is such a paper."""
    check_table(table)
    check_number(number, 0, MOST_ROWS)
    if not isinstance(value, tuple) or len(value) != 2:
        return False
    if value[0] == "many":
        return is_text(value[1], 1 << table.reads) and count_answers(table, value[1]) > number
    return value[0] == "rows" and _are_rows(value[1], number) and _is_union(table, value[1])


def _has_lines(row, reads, writes):
    return row.reads == reads and row.writes == writes


def _plain_row(table, place, total):
    rights, starts, lefts = plain_sides(table, place, total, MAX_SIDE)
    return Passes(table.reads, table.writes, rights, starts, lefts)


def _are_rows(value, most):
    """Whether the value is a tuple of at most so many plain rows."""
    if not isinstance(value, tuple) or len(value) > most:
        return False
    return all([isinstance(row, Passes) for row in value])


def _is_union(table, rows):
    if len(rows) == 0:
        return not bool(table)
    return all([_has_lines(row, table.reads, table.writes) for row in rows]) and union_of(*rows) == table


def _wider_texts(rights, texts):
    """For each right state the least text of the next width that has it."""
    wider = {}
    for right, text in texts.items():
        for letter, following in enumerate(rights[right]):
            longer = str(letter) + text
            wider[following] = min(longer, wider.get(following, longer))
    return wider
