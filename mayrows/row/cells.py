"""Cells between neighbours, which make a mayrow [2.1, 2.2, 2.3]."""

from mayrows.base.checks import are_lines, are_numbers_below, are_tuples_below, are_unlike, is_number, is_tuple_below
from mayrows.errors import InvalidRow
from mayrows.row.rows import MAX_STATES, Mayrow


def cell_row(reads, writes, lefts, rights, rule, *, outs=None):
    """The mayrow of the cells with this rule; `outs` are what the last cell may send to the right border."""
    if not are_lines(reads, writes) or not _are_signal_numbers(lefts, rights):
        raise InvalidRow("cells have one or two lines of each kind, and at most six pairs of signals")
    if not _is_rule(rule, (lefts, 1 << reads, rights), (1 << writes, lefts, rights)):
        raise InvalidRow("this is no rule of such cells")
    if outs is not None and not (are_numbers_below(outs, lefts) and are_unlike(outs)):
        raise InvalidRow("these are no signals to the right border")
    choices = [(left * rights + back, letter, answer, onward * rights + right)
               for (left, letter, right), options in rule.items() for answer, onward, back in options]
    signals = list(range(lefts)) if outs is None else outs
    lasts = [signal * rights for signal in signals]
    return Mayrow(reads, writes, lefts * rights, tuple(choices), tuple(lasts))


def _are_signal_numbers(lefts, rights):
    return is_number(lefts, 1, MAX_STATES) and is_number(rights, 1, MAX_STATES) and lefts * rights <= MAX_STATES


def _is_rule(rule, gets, gives):
    if not isinstance(rule, dict):
        return False
    if not all([is_tuple_below(got, gets) for got in rule]):
        return False
    return all([are_tuples_below(options, gives) and are_unlike(options) for options in rule.values()])
