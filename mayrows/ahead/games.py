"""Which tables can be answered letter by letter, as questions come, and papers on it [11.1 to 11.4]."""

from mayrows.ahead.positions import Game, can_end, positions_after, question_texts, short_questions
from mayrows.base.checks import MOST_INTEGER, are_ascending, check_ahead, is_number
from mayrows.base.texts import is_text
from mayrows.errors import TooMany
from mayrows.table.ends import has_answer
from mayrows.table.tables import check_table, state_behind

MAX_AHEAD = 3
MAX_POSITIONS = 192


def can_answer(table, ahead):
    """Whether the table can be answered with so many letters ahead."""
    return game_of(table, ahead).is_won()


def game_paper(table, ahead):
    """A paper that the table can, or cannot, be answered with so many letters ahead."""
    game = game_of(table, ahead)
    if game.is_won():
        rows = [spot + (game.ending(spot), game.replies(spot)) for spot in game.spots if game.is_good(spot)]
        return ("won", tuple(rows), tuple([game.short_answer(text) for text in short_questions(table, ahead)]))
    gap = game.gap()
    if gap is not None:
        return ("lost", (), gap)
    rows = [spot + (game.rank(spot), game.asking(spot)) for spot in game.spots if not game.is_good(spot)]
    return ("lost", tuple(rows), game.lost_opening())


def is_game_paper(table, ahead, value):
    """Whether the value is a game paper."""
    _check_game(table, ahead)
    if not isinstance(value, tuple) or len(value) != 3 or not _are_spots(table, ahead, value[1]):
        return False
    if value[0] == "won":
        return _is_won(table, ahead, value[1], value[2])
    return value[0] == "lost" and _is_lost(table, ahead, value[1], value[2])


def least_look(table):
    """The least number of letters ahead with which the table can be answered, or `None`."""
    for ahead in range(MAX_AHEAD + 1):
        if can_answer(table, ahead):
            return ahead
    return None


def game_of(table, ahead):
    """The positions of a table; an error if it is none, or if there are too many of them."""
    _check_game(table, ahead)
    return Game(table, ahead)


def _check_game(table, ahead):
    check_table(table)
    check_ahead(ahead)
    if len(table.rows) << table.reads * ahead > MAX_POSITIONS:
        raise TooMany(MAX_POSITIONS)


def _are_spots(table, ahead, rows):
    """Whether these are tuples of four members, each of which begins with a position, and these ascend."""
    if not isinstance(rows, tuple) or not all([isinstance(row, tuple) and len(row) == 4 for row in rows]):
        return False
    for state, waiting, _, _ in rows:
        if not is_number(state, 0, len(table.rows) - 1):
            return False
        if not is_text(waiting, 1 << table.reads) or len(waiting) != ahead:
            return False
    return are_ascending([row[:2] for row in rows])


def _is_won(table, ahead, rows, shorts):
    """Whether these rows and short answers show that the table can be answered."""
    known = {row[:2]: True for row in rows}
    if not all([_is_good_by(table, known, row) for row in rows]):
        return False
    questions = short_questions(table, ahead)
    if not isinstance(shorts, tuple) or len(shorts) != len(questions):
        return False
    if not all([pair in table for pair in zip(questions, shorts)]):
        return False
    return all([(0, text) in known for text in question_texts(table, ahead)])


def _is_good_by(table, known, row):
    """Whether the position of the row can end by its ending, and is led to known ones by its replies."""
    state, waiting, ending, replies = row
    if not is_text(ending, 1 << table.writes) or len(ending) != len(waiting):
        return False
    if not table.rows[state_behind(table.rows, table.writes, waiting, ending, state)][0]:
        return False
    if not is_text(replies, 1 << table.writes) or len(replies) != 1 << table.reads:
        return False
    return all([positions_after(table, row[:2], str(letter))[int(said)] in known
                for letter, said in enumerate(replies)])


def _is_lost(table, ahead, rows, opening):
    """Whether these rows and the opening show that the table cannot be answered."""
    if not all([is_number(row[2], 0, MOST_INTEGER) for row in rows]):
        return False
    ranks = {row[:2]: row[2] for row in rows}
    if not all([_is_lost_by(table, ranks, row[:2], row[3]) for row in rows]):
        return False
    if not is_text(opening, 1 << table.reads) or len(opening) > ahead:
        return False
    return (0, opening) in ranks if len(opening) == ahead else not has_answer(table, opening)


def _is_lost_by(table, ranks, spot, letter):
    """Whether the letter leads from the position to such of lesser ranks alone; or, if it is `""`, it cannot end."""
    if not is_text(letter, 1 << table.reads) or len(letter) > 1:
        return False
    if letter == "":
        return not can_end(table, spot)
    rank = ranks[spot]
    return all([ranks.get(following, rank) < rank for following in positions_after(table, spot, letter)])
