"""Rows of which one cell is broken: what they answer, and where it shows [13.1 to 13.6]."""

from mayrows.base.checks import are_ascending, are_tuples_below, check_number, is_number
from mayrows.base.texts import check_returned, check_text
from mayrows.errors import InvalidOperation
from mayrows.fault.spots import Bunches, Spots, meets, pairs_of_set, set_of_pairs
from mayrows.row.rows import check_row, following_sets, letter_sets, written_texts
from mayrows.table.tables import Table
from mayrows.table.tracks import least_tracks, nodes_reached

MAX_SETS = 2000


def broken_answers(row, fault, question, place):
    """The answers of the row that is broken at the place, ascending."""
    _check_fault(row, fault)
    check_text(question, row.reads)
    check_number(place, 0, len(question) - 1)
    by_row = following_sets(row.reads, row.writes, row.states, row.choices)
    by_fault = following_sets(fault.reads, fault.writes, fault.states, fault.choices)
    steps = [letter_sets(by_fault if at == place else by_row, row.writes, letter)
             for at, letter in enumerate(question)]
    return written_texts(steps, row.states, row.lasts)


def places_shown(row, fault, question):
    """The places at which the fault may show at this question, and those at which it surely shows."""
    _check_fault(row, fault)
    check_text(question, row.reads)
    bunches = Bunches(row, fault, Table.of(row))
    wrong = _sets_before(bunches, question, bunches.end_set(False))
    right = _sets_before(bunches, question, bunches.end_set(True))
    _, held = bunches.first_node()
    may, surely = [], []
    for place, letter in enumerate(question):
        broken = bunches.set_after(held, int(letter), True)
        if meets(broken, wrong[place + 1]):
            may.append(place)
            if not meets(broken, right[place + 1]):
                surely.append(place)
        held = bunches.set_after(held, int(letter), False)
    return tuple(may), tuple(surely)


def may_show(row, fault):
    """The least question, place and answer at which the fault may show, or `None`."""
    return _least_shown(_spots_of(row, fault), None)


def surely_shows(row, fault):
    """The least question and place at which the fault surely shows, or `None`."""
    return _least_shown(_bunches_of(row, fault), MAX_SETS)


def no_show_paper(row, fault):
    """A paper of no show, or `None` if the fault may show."""
    spots = _spots_of(row, fault)
    met = nodes_reached(spots, spots.first_node())
    return None if _shown_nodes(spots, met) else tuple(sorted(met))


def is_no_show_paper(row, fault, value):
    """Whether the value is a paper of no show."""
    spots = _spots_of(row, fault)
    if not are_tuples_below(value, (2,) + spots.bounds()) or not are_ascending(value):
        return False
    return _is_closed(spots, value)


def no_sure_paper(row, fault):
    """A paper of no sure show, or `None` if the fault surely shows somewhere."""
    bunches = _bunches_of(row, fault)
    met = nodes_reached(bunches, bunches.first_node(), MAX_SETS)
    if _shown_nodes(bunches, met):
        return None
    return tuple(sorted([(phase, pairs_of_set(held)) for phase, held in met]))


def is_no_sure_paper(row, fault, value):
    """Whether the value is a paper of no sure show."""
    bunches = _bunches_of(row, fault)
    if not isinstance(value, tuple) or not all([_is_bunch(part, bunches.bounds()) for part in value]):
        return False
    return are_ascending(value) and _is_closed(bunches, [(phase, set_of_pairs(pairs, row.states))
                                                         for phase, pairs in value])


def _check_fault(row, fault):
    check_row(row)
    check_row(fault)
    if row.reads != fault.reads or row.writes != fault.writes or row.states != fault.states:
        raise InvalidOperation("this is no fault of the row")


def _spots_of(row, fault):
    _check_fault(row, fault)
    return Spots(row, fault, Table.of(row))


def _bunches_of(row, fault):
    _check_fault(row, fault)
    return Bunches(row, fault, Table.of(row))


def _shown_nodes(graph, nodes):
    """A dict with those of the nodes at which the fault shows."""
    return {node: True for node in nodes if graph.is_shown(node)}


def _least_shown(graph, most):
    """The texts of the least walk to a node at which the fault shows, with the place for the second one, or `None`."""
    start = graph.first_node()
    texts = least_tracks(graph, start, _shown_nodes(graph, nodes_reached(graph, start, most)))
    if texts is None:
        return None
    check_returned(texts[0])
    # The second text has its only 0 at the broken place, so the least text has it at the least place.
    return texts[:1] + (texts[1].index("0"),) + texts[2:]


def _is_bunch(value, bounds):
    if not isinstance(value, tuple) or len(value) != 2 or not is_number(value[0], 0, 1):
        return False
    return are_tuples_below(value[1], bounds) and value[1] != () and are_ascending(value[1])


def _is_closed(graph, nodes):
    """Whether these nodes have the first one and all that follow, and the fault shows at none of them."""
    known = {node: True for node in nodes}
    if graph.first_node() not in known or _shown_nodes(graph, nodes):
        return False
    return all([following in known for node in nodes for _, following in graph.steps_from(node)])


def _sets_before(bunches, question, end):
    """For each place of the question, and behind it, the set from which the rest leads into the last set."""
    sets = [end]
    for letter in question[::-1]:
        sets.append(bunches.set_before(sets[-1], int(letter)))
    return sets[::-1]
