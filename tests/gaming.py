"""Stages 11 and 12 worked out as plainly as can be: who is right as questions come, and which lines tell which."""

from itertools import product

from tests import counting, growing, oracles


def next_position(table, position, letter, said):
    """The position behind another one."""
    state, waiting = position
    text = waiting + letter
    return counting.next_state(table, state, text[0], said), text[1:]


def can_end(table, position):
    """Whether a position can end."""
    state, waiting = position
    return any(table.rows[oracles.end_state(table, waiting, answer, state)][0]
               for answer in oracles.texts(2 ** table.writes, len(waiting)))


def positions(table, ahead):
    """All positions, ascending."""
    return [(state, waiting) for state in range(len(table.rows)) for waiting in counting.questions(table, ahead)]


def is_right_for(table, ahead, most):
    """Whether somebody can be right with all questions of at most so many letters, by trying all ways to answer."""
    letters = "0123"[:2 ** table.reads]
    answers = "0123"[:2 ** table.writes]
    nodes = [(state, waiting) for state in range(len(table.rows)) for waiting in counting.questions_to(table, ahead)]
    ends = {node: can_end(table, node) for node in nodes}
    nexts = {(state, waiting): [[(state, waiting + letter)] if len(waiting) < ahead else
                                [next_position(table, (state, waiting), letter, said) for said in answers]
                                for letter in letters] for state, waiting in nodes}
    # Where all is well if so many more letters may be asked.
    safe = ends
    for _ in range(most):
        safe = {node: ends[node] and all(any(safe[behind] for behind in ways) for ways in nexts[node])
                for node in nodes}
    return safe[0, ""]


def can_answer(table, ahead):
    """Whether the table can be answered: it takes no more letters than there are positions, and `ahead` more."""
    return is_right_for(table, ahead, len(positions(table, ahead)) + ahead + 1)


def is_game_paper(table, ahead, value):
    """Whether the value is a game paper [11.4]."""
    if type(value) is not tuple or len(value) != 3 or type(value[0]) is not str or type(value[1]) is not tuple:
        return False
    spots = []
    for row in value[1]:
        if type(row) is not tuple or len(row) != 4 or not oracles.is_plain_int(row[0], len(table.rows)):
            return False
        if not oracles.is_text(row[1], 2 ** table.reads) or len(row[1]) != ahead:
            return False
        spots.append(row[:2])
    if spots != sorted(set(spots)):
        return False
    return {"won": is_won, "lost": is_lost}.get(value[0], lambda *_: False)(table, ahead, value[1], value[2], spots)


def is_won(table, ahead, rows, shorts, spots):
    """Whether these make a paper of the form won."""
    for state, waiting, ending, replies in rows:
        if not oracles.is_text(ending, 2 ** table.writes) or len(ending) != ahead:
            return False
        if not table.rows[oracles.end_state(table, waiting, ending, state)][0]:
            return False
        if not oracles.is_text(replies, 2 ** table.writes) or len(replies) != 2 ** table.reads:
            return False
        if not all(next_position(table, (state, waiting), str(letter), said) in spots
                   for letter, said in enumerate(replies)):
            return False
    questions = counting.questions_to(table, ahead - 1)
    if type(shorts) is not tuple or len(shorts) != len(questions):
        return False
    if not all(growing.is_pair(table, (question, answer)) and oracles.has_pair(table, question, answer)
               for question, answer in zip(questions, shorts)):
        return False
    return all((0, text) in spots for text in counting.questions(table, ahead))


def is_lost(table, ahead, rows, opening, spots):
    """Whether these make a paper of the form lost."""
    if not all(growing.is_number(row[2]) and type(row[3]) is str for row in rows):
        return False
    ranks = {row[:2]: row[2] for row in rows}
    for state, waiting, rank, letter in rows:
        if letter == "":
            if can_end(table, (state, waiting)):
                return False
        elif letter not in list("0123"[:2 ** table.reads]):
            return False
        elif not all(ranks.get(next_position(table, (state, waiting), letter, said), rank) < rank
                     for said in range(2 ** table.writes)):
            return False
    if not oracles.is_text(opening, 2 ** table.reads) or len(opening) > ahead:
        return False
    return (0, opening) in spots if len(opening) == ahead else not counting.answers(table, opening)


def digit(table, line, letter, said):
    """What stands on a line where a letter and its answer letter stand."""
    return int(letter) >> line & 1 if line < table.reads else int(said) >> line - table.reads & 1


def line_text(table, line, pair):
    """The text of a line of a pair."""
    return tuple([digit(table, line, letter, said) for letter, said in zip(*pair)])


def parted_pairs(table, lines, line, width):
    """The least two pairs of a width that agree on the lines, but not on the line, or `None`."""
    groups = {}
    for pair in oracles.pairs_of(table, width):
        groups.setdefault(tuple([line_text(table, one, pair) for one in lines]), []).append(pair)
    found = [pair + other for group in groups.values() for pair in group for other in group
             if line_text(table, line, pair) != line_text(table, line, other)]
    return (min(found)[:2], min(found)[2:]) if found else None


def couple_steps(table, lines, couple, every):
    """All steps from a couple: pairs (move, other move), of all moves, that agree on the lines."""
    return [(one, other) for one in every if one[0] == couple[0] for other in every if other[0] == couple[1]
            if all(digit(table, line, *one[1:3]) == digit(table, line, *other[1:3]) for line in lines)]


def does_tell(table, lines, line):
    """Whether lines tell a line, by all couples that are met."""
    every = growing.moves(table)
    if not every:
        return True
    met = [(0, 0, False)]
    for one, other, parted in met:
        if parted and table.rows[one][0] and table.rows[other][0]:
            return False
        for move, other_move in couple_steps(table, lines, (one, other), every):
            parts = digit(table, line, *move[1:3]) != digit(table, line, *other_move[1:3])
            node = (move[3], other_move[3], parted or parts)
            if node not in met:
                met.append(node)
    return True


def is_line_paper(table, lines, line, value):
    """Whether the value is a paper of a line [12.5]."""
    if type(value) is not tuple or len(value) != 3 or type(value[0]) is not str:
        return False
    if value[0] == "parts":
        for pair in value[1:]:
            if not growing.is_pair(table, pair) or not oracles.has_pair(table, *pair):
                return False
        one, other = value[1:]
        return (len(one[0]) == len(other[0]) and line_text(table, line, one) != line_text(table, line, other)
                and all(line_text(table, at, one) == line_text(table, at, other) for at in lines))
    if value[0] != "told":
        return False
    kept = oracles.useful(table)
    for couples in value[1:]:
        if type(couples) is not tuple:
            return False
        for couple in couples:
            if type(couple) is not tuple or len(couple) != 2:
                return False
            if not all(oracles.is_plain_int(state, 60) and state in kept for state in couple):
                return False
        if list(couples) != sorted(set(couples)):
            return False
    return is_told(table, lines, line, value[1], value[2], kept)


def is_told(table, lines, line, live, dead, kept):
    """Whether these couples show that the line is told."""
    if set(live) & set(dead) or (kept and (0, 0) not in live + dead):
        return False
    if any(table.rows[one][0] and table.rows[other][0] for one, other in dead):
        return False
    every = growing.moves(table)
    for couple in live + dead:
        for move, other in couple_steps(table, lines, couple, every):
            parts = digit(table, line, *move[1:3]) != digit(table, line, *other[1:3])
            if (move[3], other[3]) not in (dead if parts or couple in dead else live + dead):
                return False
    return True


def subsets(many):
    """All ascending tuples of lines below a number."""
    return [tuple([line for line in range(many) if marks[line]]) for marks in product((0, 1), repeat=many)]
