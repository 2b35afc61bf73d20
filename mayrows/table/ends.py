"""Which questions have an answer, and papers on it [5.1 to 5.5].

Within this file sets are bit masks of useful states; what is passed and returned are ascending tuples.
"""

from mayrows.base.checks import are_ascending, are_numbers_below
from mayrows.base.masks import mask_of, members_of, union_over
from mayrows.base.texts import check_returned, check_text, is_text
from mayrows.errors import InvalidOperation, TooMany
from mayrows.table.searches import least_pair_in
from mayrows.table.states import useful_in
from mayrows.table.tables import check_table

MAX_SETS = 2000


def useful_states(table):
    """The ascending tuple of the useful states."""
    check_table(table)
    return members_of(_useful_set(table))


def least_pair(table):
    """The least pair of the table, or `None`."""
    check_table(table)
    return least_pair_in(table.rows, table.writes)


def set_behind(table, question):
    """The set to which the question leads."""
    check_table(table)
    check_text(question, table.reads)
    return members_of(_set_behind(table, question))


def has_answer(table, question):
    """Whether the question has an answer."""
    check_table(table)
    check_text(question, table.reads)
    return _set_behind(table, question) & _last_set(table) != 0


def following_set(table, states, letter):
    """The set that follows `states` by the letter."""
    check_table(table)
    if not _is_set(states, _useful_set(table)):
        raise InvalidOperation("this is no set of the table")
    if not is_text(letter, 1 << table.reads) or len(letter) != 1:
        raise InvalidOperation("this is no question of one letter")
    return members_of(union_over(_single_sets(table)[int(letter)], mask_of(states)))


def unanswered(table):
    """The least question without an answer, or `None`."""
    check_table(table)
    return _met_sets(table)[0]


def end_paper(table):
    """A paper that each question has an answer, or that some question has none."""
    check_table(table)
    question, met = _met_sets(table)
    if question is not None:
        return ("question", question)
    return ("answered", tuple(sorted([members_of(states) for states in met])))


def is_end_paper(table, value):
    """Whether the value is an end paper of the table."""
    check_table(table)
    if not isinstance(value, tuple) or len(value) != 2:
        return False
    if value[0] == "question":
        return is_text(value[1], 1 << table.reads) and not has_answer(table, value[1])
    return value[0] == "answered" and _is_family(value[1], _useful_set(table)) and _is_answered(value[1], table)


def _useful_set(table):
    return mask_of([state for state, useful in enumerate(useful_in(table.rows)) if useful])


def _last_set(table):
    return mask_of([state for state, (last, nexts) in enumerate(table.rows) if last])


def _first_set(table):
    return 1 & _useful_set(table)


def _single_sets(table):
    """For each letter the sets that follow each state alone."""
    useful = _useful_set(table)
    return [[mask_of(nexts[letter << table.writes:(letter + 1) << table.writes]) & useful
             for last, nexts in table.rows] for letter in range(1 << table.reads)]


def _set_behind(table, question):
    singles = _single_sets(table)
    states = _first_set(table)
    for letter in question:
        states = union_over(singles[int(letter)], states)
    return states


def _met_sets(table):
    """The least question without an answer, or `None`, and the sets that were met until it was found."""
    singles, lasts = _single_sets(table), _last_set(table)
    met = [_first_set(table)]
    questions = [""]
    known = {met[0]: True}
    if not met[0] & lasts:
        return "", met
    at = 0
    while at < len(met):
        for letter, row in enumerate(singles):
            following = union_over(row, met[at])
            if following not in known:
                if len(met) == MAX_SETS:
                    raise TooMany(MAX_SETS)
                known[following] = True
                met.append(following)
                questions.append(questions[at] + str(letter))
                if not following & lasts:
                    check_returned(questions[-1])
                    return questions[-1], met
        at += 1
    return None, met


def _is_set(value, useful):
    """Whether the value is an ascending tuple of useful states."""
    if not are_numbers_below(value, useful.bit_length()) or not are_ascending(value):
        return False
    return mask_of(value) & ~useful == 0


def _is_family(value, useful):
    if not isinstance(value, tuple) or len(value) > MAX_SETS:
        return False
    return all([_is_set(states, useful) for states in value]) and are_ascending(value)


def _is_answered(family, table):
    """Whether the family is closed, and each of its sets ends."""
    singles, lasts = _single_sets(table), _last_set(table)
    masks = [mask_of(states) for states in family]
    known = set(masks)
    if _first_set(table) not in known:
        return False
    for states in masks:
        if not states & lasts:
            return False
        if not all([union_over(row, states) in known for row in singles]):
            return False
    return True
