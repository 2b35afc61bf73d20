"""The answers of a question in their order [7.1]."""

from mayrows.base.checks import MOST_INTEGER, check_number
from mayrows.base.texts import check_text
from mayrows.count.rests import rest_counts
from mayrows.table.tables import check_table


def answer_at(table, question, place):
    """The answer of the question at the place, or `None`."""
    for answer in answers_from(table, question, place):
        return answer
    return None


def place_of(table, question, answer):
    """The place of the answer among those of the question, or `None`."""
    check_table(table)
    check_text(question, table.reads)
    check_text(answer, table.writes)
    if len(question) != len(answer):
        return None
    counts = rest_counts(table.rows, table.writes, question)
    place, state = 0, 0
    for letter, said, behind in zip(question, answer, counts[1:]):
        first = int(letter) << table.writes
        nexts = table.rows[state][1]
        place += sum([behind[following] for following in nexts[first:first + int(said)]])
        state = nexts[first + int(said)]
    return place if table.rows[state][0] else None


def answers_from(table, question, place=0):
    """A generator of the answers of the question from the place on, ascending."""
    check_table(table)
    check_text(question, table.reads)
    check_number(place, 0, MOST_INTEGER)
    counts = rest_counts(table.rows, table.writes, question)
    skipped = place
    waiting = [("", 0)]
    while waiting:
        text, state = waiting.pop()
        many = counts[len(text)][state]
        # Nothing is left of a text that no answer begins with, either.
        if many <= skipped:
            skipped -= many
        elif len(text) == len(question):
            yield text
        else:
            first = int(question[len(text)]) << table.writes
            nexts = table.rows[state][1][first:first + (1 << table.writes)]
            longer = [(text + str(said), following) for said, following in enumerate(nexts)]
            # What is put on the pile last is taken first, so the least letter goes on top.
            waiting.extend(longer[::-1])
