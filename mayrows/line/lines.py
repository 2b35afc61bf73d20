"""Which lines of a table tell which, and papers on it [12.1 to 12.6]."""

from mayrows.base.checks import are_ascending, are_numbers_below, are_tuples_below, check_number
from mayrows.base.masks import mask_of, members_of
from mayrows.base.reach import reached_from
from mayrows.base.texts import check_returned
from mayrows.errors import InvalidOperation
from mayrows.line.couples import CoupleSteps, PartingSteps
from mayrows.table.moves import few_moves
from mayrows.table.tables import check_table
from mayrows.table.tracks import least_tracks, nodes_reached

MAX_USEFUL = 20


def tells(table, lines, line):
    """Whether the lines tell the line."""
    moves = _line_moves(table, lines, line)
    return _parted_lines(table, moves, mask_of(lines)) >> line & 1 == 0


def told_lines(table, lines):
    """The ascending tuple of all lines that the lines tell."""
    check_table(table)
    _check_lines(table, lines)
    moves = few_moves(table, MAX_USEFUL)
    return members_of(_every_line(table) & ~_parted_lines(table, moves, mask_of(lines)))


def keys(table):
    """The ascending tuple of all keys."""
    moves = few_moves(table, MAX_USEFUL)
    found = []
    # What has some of these lines alone is a lesser mask, so it was looked at before.
    for lines in range(_every_line(table) + 1):
        if all([key & ~lines for key in found]) and _parted_lines(table, moves, lines) == 0:
            found.append(lines)
    return tuple(sorted([members_of(key) for key in found]))


def least_parted(table, lines, line):
    """The least two pairs that agree on the lines, but not on the line, or `None`."""
    return _least_parted(table, _line_moves(table, lines, line), lines, line)


def line_paper(table, lines, line):
    """A paper that the lines tell the line, or that they do not."""
    moves = _line_moves(table, lines, line)
    pairs = _least_parted(table, moves, lines, line)
    if pairs is not None:
        return ("parts",) + pairs
    if not moves.useful:
        return ("told", (), ())
    steps = PartingSteps(CoupleSteps(moves, table.reads, mask_of(lines)), line)
    met = sorted(nodes_reached(steps, (0, 0, 0)))
    dead = [(one, two) for one, two, mark in met if mark]
    live = [(one, two) for one, two, _ in met if (one, two) not in dead]
    return ("told", _state_pairs(moves, live), _state_pairs(moves, dead))


def is_line_paper(table, lines, line, value):
    """Whether the value is a paper of the line."""
    moves = _line_moves(table, lines, line)
    if not isinstance(value, tuple) or len(value) != 3:
        return False
    if value[0] == "parts":
        return _are_parted(table, lines, line, value[1:])
    if value[0] != "told" or not _are_couples(table, moves, value[1]) or not _are_couples(table, moves, value[2]):
        return False
    steps = CoupleSteps(moves, table.reads, mask_of(lines))
    return _is_told(moves, steps, line, _place_pairs(moves, value[1]), _place_pairs(moves, value[2]))


def _check_lines(table, lines):
    if not are_numbers_below(lines, table.reads + table.writes) or not are_ascending(lines):
        raise InvalidOperation("these are no ascending lines of the table")


def _line_moves(table, lines, line):
    check_table(table)
    _check_lines(table, lines)
    check_number(line, 0, table.reads + table.writes - 1)
    return few_moves(table, MAX_USEFUL)


def _every_line(table):
    """The set of all lines of the table."""
    return (1 << table.reads + table.writes) - 1


def _parted_lines(table, moves, agreed):
    """The set of the lines that these ones do not tell, all sets as bit masks."""
    if not moves.useful:
        return 0
    steps = CoupleSteps(moves, table.reads, agreed)
    places = range(len(moves.useful))
    nexts = {(one, two): [pair for _, _, pair in steps.steps_between((one, two))]
             for one in places for two in places}
    reached = reached_from(nexts, (0, 0))
    hopes = _hopeful(nexts, reached, moves.last_places)
    parted = 0
    for couple in reached:
        for _, lines, following in steps.steps_between(couple):
            if following in hopes:
                parted = parted | lines
    return parted


def _hopeful(nexts, reached, last_places):
    """A dict with those of the reached couples from which steps lead to two last states."""
    befores = {couple: [] for couple in reached}
    for couple in reached:
        for following in nexts[couple]:
            befores[following].append(couple)
    # Behind all couples of two last states stands one more node, so that one search is enough.
    end = (-1, -1)
    befores[end] = [(one, two) for one, two in reached if one in last_places and two in last_places]
    return {couple: True for couple in reached_from(befores, end)}


def _least_parted(table, moves, lines, line):
    if not moves.useful:
        return None
    goals = {(one, two, 1): True for one in moves.last_places for two in moves.last_places}
    steps = PartingSteps(CoupleSteps(moves, table.reads, mask_of(lines)), line)
    texts = least_tracks(steps, (0, 0, 0), goals)
    if texts is None:
        return None
    check_returned(texts[0])
    return (texts[:2], texts[2:])


def _state_pairs(moves, couples):
    return tuple([(moves.useful[one], moves.useful[two]) for one, two in couples])


def _place_pairs(moves, couples):
    return [(moves.useful.index(one), moves.useful.index(two)) for one, two in couples]


def _are_couples(table, moves, value):
    """Whether the value is an ascending tuple of couples of the table."""
    if not are_tuples_below(value, (len(table.rows), len(table.rows))) or not are_ascending(value):
        return False
    return all([one in moves.useful and two in moves.useful for one, two in value])


def _is_told(moves, steps, line, live, dead):
    """Whether these couples show that the line is told."""
    known = {couple: 0 for couple in live}
    for couple in dead:
        if couple in known or (couple[0] in moves.last_places and couple[1] in moves.last_places):
            return False
        known[couple] = 1
    if moves.useful and (0, 0) not in known:
        return False
    # A couple may lead to those with as great a mark, or a greater one, and by a step that parts the line to dead ones.
    return all([known.get(following, -1) >= known[couple] | parted >> line & 1
                for couple in known for _, parted, following in steps.steps_between(couple)])


def _are_parted(table, lines, line, pairs):
    """Whether these are two pairs of the table, of one width, that agree on the lines, but not on the line."""
    if not all([pair in table for pair in pairs]) or len(pairs[0][0]) != len(pairs[1][0]):
        return False
    one, other = [_line_texts(table, pair) for pair in pairs]
    return all([one[agreed] == other[agreed] for agreed in lines]) and one[line] != other[line]


def _line_texts(table, pair):
    """What stands on each line of the pair."""
    digits = [int(letter) | int(said) << table.reads for letter, said in zip(pair[0], pair[1])]
    return [[one >> line & 1 for one in digits] for line in range(table.reads + table.writes)]
