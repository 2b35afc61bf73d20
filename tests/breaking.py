"""Stage 13 worked out as plainly as can be: what a broken row answers, and where a fault shows."""

from mayrows.table.tables import Table
from tests import oracles


def broken_answers(row, fault, question, place):
    """The answers of the row that is broken at a place, ascending, by all broken walks."""
    walks = [("", 0)]
    for at, mark in enumerate(question):
        choices = fault.choices if at == place else row.choices
        walks = list({(text + str(answer), following) for text, state in walks
                      for begin, letter, answer, following in choices if begin == state and letter == int(mark)})
    return tuple(sorted({text for text, state in walks if state in row.lasts}))


def places_shown(row, fault, question):
    """The places at which a fault may show, and those at which it surely shows."""
    right = set(oracles.row_answers(row, question))
    may, surely = [], []
    for place in range(len(question)):
        broken = set(broken_answers(row, fault, question, place))
        if broken - right:
            may.append(place)
        if broken and not broken & right:
            surely.append(place)
    return tuple(may), tuple(surely)


def questions(row, most):
    """All questions of at most this width, in their order."""
    return [question for width in range(most + 1) for question in oracles.texts(2 ** row.reads, width)]


def least_shows(row, fault, most):
    """The least triple at which a fault may show, and the least pair at which it surely shows, as far as this width."""
    may = surely = None
    for question in questions(row, most):
        shown = places_shown(row, fault, question)
        if shown[0] and may is None:
            wrong = set(broken_answers(row, fault, question, shown[0][0])) - set(oracles.row_answers(row, question))
            may = question, shown[0][0], min(wrong)
        if shown[1] and surely is None:
            surely = question, shown[1][0]
    return may, surely


def pairs_after(row, table, choices, pairs, letter):
    """All pairs (state, table state) to which some choices with a letter lead from some pairs."""
    return {(following, table.rows[held][1][letter * 2 ** row.writes + answer]) for state, held in pairs
            for begin, read, answer, following in choices if begin == state and read == letter}


def spots_after(row, fault, table, spot):
    """All spots to which steps from a spot lead."""
    ways = [(spot[0], row.choices)] + ([(1, fault.choices)] if spot[0] == 0 else [])
    return [(phase,) + pair for phase, choices in ways for letter in range(2 ** row.reads)
            for pair in pairs_after(row, table, choices, [spot[1:]], letter)]


def bunches_after(row, fault, table, bunch):
    """All bunches to which a bunch leads."""
    ways = [(bunch[0], row.choices)] + ([(1, fault.choices)] if bunch[0] == 0 else [])
    found = [(phase, tuple(sorted(pairs_after(row, table, choices, bunch[1], letter))))
             for phase, choices in ways for letter in range(2 ** row.reads)]
    return [one for one in found if one[1]]


def all_bunches(row, fault, most=2100):
    """All bunches that can be come to, at most about so many."""
    table = Table.of(row)
    met = {(0, ((0, 0),)): True}
    order = list(met)
    for bunch in order:
        for following in bunches_after(row, fault, table, bunch):
            if following not in met:
                met[following] = True
                order.append(following)
        if len(order) > most:
            break
    return order


def is_spot(value, row, table):
    """Whether the value is a pair (state, table state)."""
    return (type(value) is tuple and len(value) == 2 and oracles.is_plain_int(value[0], row.states)
            and oracles.is_plain_int(value[1], len(table)))


def is_no_show_paper(row, fault, value):
    """Whether the value is a paper of no show [13.5]."""
    table = Table.of(row)
    if type(value) is not tuple:
        return False
    for spot in value:
        if type(spot) is not tuple or not oracles.is_plain_int(spot[0] if spot else None, 2):
            return False
        if not is_spot(spot[1:], row, table):
            return False
    if list(value) != sorted(set(value)) or (0, 0, 0) not in value:
        return False
    if any(phase == 1 and state in row.lasts and not table.rows[held][0] for phase, state, held in value):
        return False
    return all(following in value for spot in value for following in spots_after(row, fault, table, spot))


def is_no_sure_paper(row, fault, value):
    """Whether the value is a paper of no sure show [13.6]."""
    table = Table.of(row)
    if type(value) is not tuple:
        return False
    for bunch in value:
        if type(bunch) is not tuple or len(bunch) != 2 or not oracles.is_plain_int(bunch[0], 2):
            return False
        if type(bunch[1]) is not tuple or not bunch[1] or not all(is_spot(pair, row, table) for pair in bunch[1]):
            return False
        if list(bunch[1]) != sorted(set(bunch[1])):
            return False
    if list(value) != sorted(set(value)) or (0, ((0, 0),)) not in value:
        return False
    for phase, pairs in value:
        lasts = [table.rows[held][0] for state, held in pairs if state in row.lasts]
        if phase == 1 and lasts and not any(lasts):
            return False
        if not all(following in value for following in bunches_after(row, fault, table, (phase, pairs))):
            return False
    return True
