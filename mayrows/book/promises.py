"""Promises about named rows, and papers against them [14.1 to 14.4]."""

from mayrows.ahead.games import can_answer, game_paper, is_game_paper
from mayrows.base.checks import MOST_AHEAD, are_ascending, are_numbers_below, is_number
from mayrows.count.vectors import least_with
from mayrows.errors import InvalidOperation, InvalidPromise, UnknownName
from mayrows.line.lines import least_parted
from mayrows.row.rows import Mayrow
from mayrows.table.ends import unanswered
from mayrows.table.tables import Table
from mayrows.table.within import is_within, least_beyond, parting

MOST_ANSWERS = 99
MAX_NAME = 8
# All lines that some row can have are below this number.
MANY_LINES = 4
LETTERS = "abcdefghijklmnopqrstuvwxyz"


def is_name(value):
    """Whether the value is a name."""
    return isinstance(value, str) and 1 <= len(value) <= MAX_NAME and value.strip(LETTERS) == ""


def is_promise(value):
    """Whether the value is a promise."""
    if not isinstance(value, tuple) or len(value) < 2 or not is_name(value[1]):
        return False
    if len(value) == 2:
        return value[0] == "answered"
    if len(value) == 4:
        return value[0] == "told" and _are_told_lines(value[2]) and is_number(value[3], 0, MANY_LINES - 1)
    if len(value) != 3:
        return False
    if value[0] == "most":
        return is_number(value[2], 0, MOST_ANSWERS)
    if value[0] == "ahead":
        return is_number(value[2], 0, MOST_AHEAD)
    return value[0] in ("within", "alike") and is_name(value[2])


def names_of(promise):
    """The tuple of the names in a promise, in their order there, each once."""
    check_promise(promise)
    if promise[0] in ("within", "alike") and promise[1] != promise[2]:
        return promise[1:]
    return promise[1:2]


def does_fit(promise, rows):
    """Whether the promise fits the named rows."""
    return fits_rows(promise, _rows_of(promise, rows))


def does_hold(promise, rows):
    """Whether the promise holds."""
    return _is_kept(promise, _tables_of(promise, rows))


def paper_against(promise, rows):
    """The paper against the promise, or `None` if it holds."""
    return paper_of(promise, _tables_of(promise, rows))


def is_paper_against(promise, rows, value):
    """Whether the value is a paper against the promise."""
    tables = _tables_of(promise, rows)
    paper = paper_of(promise, tables)
    if paper is None or not isinstance(value, tuple) or len(value) != len(paper):
        return False
    if promise[0] != "ahead":
        return value == paper
    return value[0] == paper[0] and is_game_paper(tables[0], promise[2], value[1])


def check_promise(promise):
    """Raise `InvalidPromise` unless the value is a promise."""
    if not is_promise(promise):
        raise InvalidPromise("this is no promise")


def fits_rows(promise, rows):
    """Whether the promise fits the rows of its names; `rows` is a list of these."""
    lines = rows[0].reads + rows[0].writes
    if promise[0] == "told" and max(promise[2] + promise[3:]) >= lines:
        return False
    return all([row.reads == rows[0].reads and row.writes == rows[0].writes for row in rows])


def paper_of(promise, tables):
    """The paper against a promise that fits, or `None`; `tables` are those of its names."""
    table = tables[0]
    if promise[0] == "within":
        return _paper_with("pair", least_beyond(table, tables[-1]))
    if promise[0] == "alike":
        return _paper_with("pair", parting(table, tables[-1]))
    if promise[0] == "told":
        return _paper_with("parts", least_parted(table, promise[2], promise[3]))
    if promise[0] == "ahead":
        return None if can_answer(table, promise[2]) else ("asked", game_paper(table, promise[2]))
    if promise[0] == "answered":
        question = unanswered(table)
    else:
        question = least_with(table, promise[2] + 1, at_least=True)
    return None if question is None else ("question", question)


def _is_kept(promise, tables):
    """Whether a promise that fits holds; `tables` are those of its names."""
    # These three are told without their papers, one of which can be too wide to be returned.
    if promise[0] == "within":
        return is_within(tables[0], tables[-1])
    if promise[0] == "alike":
        return tables[0] == tables[-1]
    if promise[0] == "ahead":
        return can_answer(tables[0], promise[2])
    # Of the others just what their papers tell is asked for [14.4], so they raise what is raised there.
    return paper_of(promise, tables) is None


def _are_told_lines(value):
    return are_numbers_below(value, MANY_LINES) and are_ascending(value)


def _paper_with(word, pair):
    return None if pair is None else (word,) + pair


def _rows_of(promise, rows):
    """The list of the rows of the names in a promise."""
    check_promise(promise)
    if not isinstance(rows, dict):
        raise InvalidOperation("these are no named rows")
    if not all([is_name(name) and isinstance(row, Mayrow) for name, row in rows.items()]):
        raise InvalidOperation("these are no named rows")
    names = names_of(promise)
    for name in names:
        if name not in rows:
            raise UnknownName(name)
    return [rows[name] for name in names]


def _tables_of(promise, rows):
    """The list of the tables of the names in a promise that fits."""
    found = _rows_of(promise, rows)
    if not fits_rows(promise, found):
        raise InvalidOperation("the promise does not fit")
    return [Table.of(row) for row in found]
