"""Tables with one answer at most, and how far ahead one must look for its letters [10.1 to 10.6]."""

from mayrows.ahead.splits import begin_splits, has_two_lasts, open_splits, split_of, split_ranks, splits_after
from mayrows.base.checks import MOST_INTEGER, are_ascending, are_tuples_below, check_ahead, is_number
from mayrows.base.texts import check_returned, check_text
from mayrows.errors import InvalidOperation
from mayrows.least.answers import answer_at
from mayrows.table.moves import Moves, few_moves
from mayrows.table.tables import check_table, is_pair, state_behind
from mayrows.table.walks import Couples, Walkers, least_walk, way_to

MAX_USEFUL = 16


def is_single(table):
    """Whether no question has more than one answer."""
    return _is_single(few_moves(table, MAX_USEFUL))


def single_paper(table):
    """A paper that the table is single, or the least question with two answers."""
    moves = few_moves(table, MAX_USEFUL)
    splits = open_splits(moves)
    if any([has_two_lasts(moves, split) for split in splits]):
        goals = {(one, two, 1): True for one in moves.last_places for two in moves.last_places}
        texts, _ = least_walk(Couples(moves), (0, 0, 0), goals)
        return ("double", texts[0], answer_at(table, texts[0], 0), answer_at(table, texts[0], 1))
    return ("single", tuple([_states_of(moves, split) for split in sorted(splits)]))


def is_single_paper(table, value):
    """Whether the value is a single paper of the table."""
    moves = few_moves(table, MAX_USEFUL)
    if not isinstance(value, tuple):
        return False
    if len(value) == 2 and value[0] == "single":
        return _are_single(table, moves, value[1])
    if len(value) != 4 or value[0] != "double":
        return False
    pairs = [(value[1], value[2]), (value[1], value[3])]
    return all([pair in table for pair in pairs]) and value[2] != value[3]


def least_ahead(table):
    """The least number of letters that must be seen ahead, or `None`."""
    moves = _single_moves(table)
    return _least_ahead(moves, split_ranks(moves))


def ahead_paper(table):
    """A paper on how many letters must be seen ahead."""
    moves = _single_moves(table)
    ranks = split_ranks(moves)
    least = _least_ahead(moves, ranks)
    if least is None:
        return _never_paper(moves, ranks)
    rows = [_states_of(moves, split) + (ranks[split],) for split in sorted(ranks)]
    return ("ahead", least, tuple(rows), _clash(moves, ranks, least) if least else None)


def is_ahead_paper(table, value):
    """Whether the value is an ahead paper of the table."""
    moves = _single_moves(table)
    if not isinstance(value, tuple) or len(value) != 4:
        return False
    if value[0] == "never":
        return _is_never(table, value[1], value[2], value[3])
    if value[0] != "ahead" or not is_number(value[1], 0, MOST_INTEGER):
        return False
    return _are_ranked(table, moves, value[1], value[2]) and _is_clash(table, value[1], value[3])


def spoken(table, ahead, question):
    """A generator of the letters of the answer, each as soon as it is known: pairs (seen letters, answer letter)."""
    check_table(table)
    check_ahead(ahead)
    check_text(question, table.reads)
    least = least_ahead(table)
    if least is None or least > ahead:
        raise InvalidOperation("so few letters ahead do not tell the letters of the answer")
    moves = Moves(table)
    every = tuple(range(len(moves.useful)))
    place = 0
    for index in range(len(question)):
        seen = min(index + ahead + 1, len(question))
        is_whole = index + ahead + 1 > len(question)
        step = _known_step(moves, place, question[index:seen], moves.last_places if is_whole else every)
        if step is None:
            raise InvalidOperation("no question that begins so has an answer")
        place = step[1]
        yield seen, str(step[0])


def _single_moves(table):
    moves = few_moves(table, MAX_USEFUL)
    if not _is_single(moves):
        raise InvalidOperation("some question has two answers")
    return moves


def _is_single(moves):
    return not any([has_two_lasts(moves, split) for split in open_splits(moves)])


def _states_of(moves, split):
    return (moves.useful[split[0]], moves.useful[split[1]])


def _least_ahead(moves, ranks):
    begins = begin_splits(moves)
    if not all([split in ranks for split in begins]):
        return None
    return max([ranks[split] for split in begins], default=0)


def _never_paper(moves, ranks):
    """A paper that no number of letters is enough, with a ring that is as narrow as can be."""
    every = (1 << len(moves.useful)) - 1
    walkers = Walkers(moves, (every, every))
    found = [least_walk(walkers, split, {split: True}) for split in open_splits(moves) if split not in ranks]
    ring, split = min([walk for walk in found if walk is not None], key=lambda one: len(one[0][0]))
    check_returned(ring[0])
    start, _ = least_walk(Couples(moves), (0, 0, 0), {split + (1,): True})
    ends = [way_to(moves, place, moves.last_places) for place in split]
    return ("never", start, ring, ends[0] + ends[1])


def _clash(moves, ranks, least):
    """Two pairs that show that one letter less is not enough, with the index of the unlike letters."""
    split = [split for split in begin_splits(moves) if ranks[split] == least][0]
    place, letter, places, marks = _begin_of(moves, split)
    question, answer = way_to(moves, 0, (place,))
    index = len(question)
    texts = [question + str(letter), answer + str(marks[0]), answer + str(marks[1])]
    for rank in range(least - 1, 0, -1):
        letter, places, marks = _step_to(moves, ranks, places, rank)
        texts = [text + str(mark) for text, mark in zip(texts, (letter,) + marks)]
    ends = [way_to(moves, place, moves.last_places) for place in places]
    return (index, texts[0] + ends[0][0], texts[1] + ends[0][1], texts[0] + ends[1][0], texts[2] + ends[1][1])


def _begin_of(moves, split):
    """A place and a letter by which a split begins, the places of the split, and the answer letters to them."""
    for letter, row in enumerate(moves.by_letter):
        for place, steps in enumerate(row):
            for answer, following in steps:
                for other, other_following in steps:
                    if answer < other and split_of(following, other_following) == split:
                        return place, letter, (following, other_following), (answer, other)
    return None


def _step_to(moves, ranks, places, rank):
    """A letter that leads from two places to a split of this rank, the places there, and the answer letters."""
    for letter, row in enumerate(moves.by_letter):
        for answer, following in row[places[0]]:
            for other, other_following in row[places[1]]:
                if ranks[split_of(following, other_following)] == rank:
                    return letter, (following, other_following), (answer, other)
    return None


def _splits_told(table, moves, rows):
    """The splits, by places, that these pairs of states tell, or `None` unless all are splits and ascend."""
    if not are_tuples_below(rows, (len(table.rows), len(table.rows))) or not are_ascending(rows):
        return None
    if not all([one <= two and one in moves.useful and two in moves.useful for one, two in rows]):
        return None
    return [(moves.useful.index(one), moves.useful.index(two)) for one, two in rows]


def _are_single(table, moves, rows):
    """Whether these are splits that show that the table is single."""
    splits = _splits_told(table, moves, rows)
    if splits is None or any([has_two_lasts(moves, split) for split in splits]):
        return False
    known = set(splits)
    wanted = begin_splits(moves)
    for split in splits:
        wanted.extend(splits_after(moves, split))
    return all([split in known for split in wanted])


def _are_ranked(table, moves, most, rows):
    """Whether these are the rows of an ahead paper for so many letters."""
    many = len(table.rows)
    if not are_tuples_below(rows, (many, many, most + 1)):
        return False
    splits = _splits_told(table, moves, tuple([row[:2] for row in rows]))
    if splits is None:
        return False
    ranks = {split: row[2] for split, row in zip(splits, rows)}
    # A rank is at least 1, and what has no row has none that is less.
    if not all([ranks.get(split, 0) for split in begin_splits(moves) + splits]):
        return False
    return all([ranks.get(following, ranks[split]) < ranks[split]
                for split in splits for following in splits_after(moves, split)])


def _is_clash(table, ahead, value):
    """Whether the value shows that fewer letters ahead are not enough."""
    if ahead == 0:
        return value is None
    if not isinstance(value, tuple) or len(value) != 5 or not is_number(value[0], 0, MOST_INTEGER):
        return False
    index, question, answer, other_question, other_answer = value
    if (question, answer) not in table or (other_question, other_answer) not in table:
        return False
    if min(len(question), len(other_question)) < index + ahead:
        return False
    return question[:index + ahead] == other_question[:index + ahead] and answer[index] != other_answer[index]


def _is_never(table, start, ring, ends):
    """Whether these show that no number of letters ahead is enough."""
    if not _is_double(table, start) or not _is_double(table, ring) or start[1] == start[2] or ring[0] == "":
        return False
    if not isinstance(ends, tuple) or len(ends) != 4:
        return False
    return all([_is_ring(table, (start[0], start[at]), (ring[0], ring[at]), ends[2 * at - 2:2 * at]) for at in (1, 2)])


def _is_double(table, value):
    """Whether the value is a question with two answer texts of its width."""
    if not isinstance(value, tuple) or len(value) != 3:
        return False
    return all([is_pair((value[0], answer), table.reads, table.writes) for answer in value[1:]])


def _is_ring(table, start, ring, end):
    """Whether these pairs lead from state 0 to a state, from there to itself, and on to a last state."""
    if not is_pair(end, table.reads, table.writes):
        return False
    state = state_behind(table.rows, table.writes, start[0], start[1])
    if state_behind(table.rows, table.writes, ring[0], ring[1], state) != state:
        return False
    return table.rows[state_behind(table.rows, table.writes, end[0], end[1], state)][0]


def _known_step(moves, place, rest, goals):
    """The first step of a walk over the rest of a question to one of the goals, or `None`."""
    steps = moves.by_letter[int(rest[0])][place] if moves.useful else ()
    for step in steps:
        places = [step[1]]
        for letter in rest[1:]:
            row = moves.by_letter[int(letter)]
            places = [following for held in places for _, following in row[held]]
        if any([held in goals for held in places]):
            return step
    return None
