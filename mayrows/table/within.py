"""Whether one table is within another one, and papers on it [3.4]."""

from mayrows.base.checks import are_ascending, are_tuples_below
from mayrows.table.searches import least_pair_in
from mayrows.table.states import FIRST_ONLY, ONE_ONLY, met_states, paired_rows
from mayrows.table.tables import check_alike, check_table


def is_within(table, other_table):
    """Whether the second table has each pair that the first one has."""
    _check_tables(table, other_table)
    rows = paired_rows(table.rows, other_table.rows, FIRST_ONLY)
    return not any([rows[state][0] for state in met_states(rows)])


def parting(table, other_table):
    """The least pair that exactly one of both tables has, or `None`."""
    _check_tables(table, other_table)
    return least_pair_in(paired_rows(table.rows, other_table.rows, ONE_ONLY), table.writes)


def least_beyond(table, other_table):
    """The least pair of the first table that the second one has not, or `None`."""
    _check_tables(table, other_table)
    return least_pair_in(paired_rows(table.rows, other_table.rows, FIRST_ONLY), table.writes)


def within_paper(table, other_table):
    """A paper that the first table is, or is not, within the second one."""
    pair = least_beyond(table, other_table)
    if pair is not None:
        return ("beyond", pair[0], pair[1])
    rows = paired_rows(table.rows, other_table.rows, FIRST_ONLY)
    many = len(other_table.rows)
    return ("within", tuple([divmod(state, many) for state in sorted(met_states(rows))]))


def is_within_paper(table, other_table, value):
    """Whether the value is a paper that the first table is, or is not, within the second one."""
    _check_tables(table, other_table)
    if not isinstance(value, tuple):
        return False
    if len(value) == 2 and value[0] == "within":
        return _are_closed_pairs(table, other_table, value[1])
    if len(value) == 3 and value[0] == "beyond":
        return value[1:] in table and value[1:] not in other_table
    return False


def _check_tables(table, other_table):
    check_table(table)
    check_table(other_table)
    check_alike(table, other_table)


def _are_closed_pairs(table, other_table, pairs):
    """Whether these are the pairs of a paper that the first table is within the second one."""
    if not are_tuples_below(pairs, (len(table.rows), len(other_table.rows))) or not are_ascending(pairs):
        return False
    known = set(pairs)
    if (0, 0) not in known:
        return False
    for state, other in pairs:
        last, nexts = table.rows[state]
        other_last, other_nexts = other_table.rows[other]
        if last and not other_last:
            return False
        if not all([following in known for following in zip(nexts, other_nexts)]):
            return False
    return True
