"""Tables made of tables [4.1 to 4.5]; the operators are those of the class `Table`."""

from mayrows.base.checks import are_tuples_below, are_unlike, check_number
from mayrows.errors import InvalidOperation
from mayrows.table.chains import chain_rows
from mayrows.table.ends import MAX_SETS
from mayrows.table.states import least_rows, met_rows
from mayrows.table.tables import MAX_STATES, Table, check_table


def turned(table):
    """The table with questions and answers exchanged."""
    check_table(table)
    indices = [(letter << table.writes) + answer
               for answer in range(1 << table.writes) for letter in range(1 << table.reads)]
    rows = [(last, tuple([nexts[index] for index in indices])) for last, nexts in table.rows]
    return Table(table.writes, table.reads, tuple(met_rows(rows)))


def behind(table, other_table):
    """The second table behind the first one: what the first one writes is read by the second one."""
    check_table(table)
    check_table(other_table)
    if table.writes != other_table.reads:
        raise InvalidOperation("the second table does not read as many lines as the first one writes")
    rows = chain_rows(table, other_table, MAX_SETS)
    return Table(table.reads, other_table.writes, least_rows(rows, MAX_STATES))


def left_rest(table, whole):
    """The greatest table that is within `whole` if `table` stands behind it."""
    check_table(table)
    check_table(whole)
    if table.writes != whole.writes:
        raise InvalidOperation("the tables do not write as many lines")
    return ~behind(~whole, turned(table))


def right_rest(table, whole):
    """The greatest table that is within `whole` if it stands behind `table`."""
    check_table(table)
    check_table(whole)
    if table.reads != whole.reads:
        raise InvalidOperation("the tables do not read as many lines")
    return ~behind(turned(table), ~whole)


def nothing(reads, writes):
    """The table without pairs."""
    check_number(reads, 1, 2)
    check_number(writes, 1, 2)
    return Table(reads, writes, ((False, (0,) * (1 << (reads + writes))),))


def everything(reads, writes):
    """The table with all pairs of two texts of one width."""
    return ~nothing(reads, writes)


def same(reads):
    """The table with the pairs of each text and itself."""
    check_number(reads, 1, 2)
    return letterwise(reads, reads, tuple([(letter, letter) for letter in range(1 << reads)]))


def letterwise(reads, writes, pairs):
    """The table with the pairs of texts whose letters and answer letters are among `pairs`, place by place."""
    check_number(reads, 1, 2)
    check_number(writes, 1, 2)
    if not are_tuples_below(pairs, (1 << reads, 1 << writes)) or not are_unlike(pairs):
        raise InvalidOperation("these are no unlike pairs of letters and answer letters")
    kept = [(letter, answer) in pairs for letter in range(1 << reads) for answer in range(1 << writes)]
    rows = [(True, tuple([0 if here else 1 for here in kept])), (False, (1,) * len(kept))]
    return Table(reads, writes, least_rows(rows, MAX_STATES))
