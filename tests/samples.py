"""The examples' rows and tables, and such that are made at random from a told number."""

import random

from mayrows.least.passes import Passes
from mayrows.row.rows import Mayrow
from mayrows.table.tables import Table

COPY = Mayrow(1, 1, 1, ((0, 0, 0, 0), (0, 1, 1, 0)), (0,))
FREE = Mayrow(1, 1, 1, ((0, 0, 0, 0), (0, 1, 0, 0), (0, 1, 1, 0)), (0,))
ONCE = Mayrow(1, 1, 2, ((0, 0, 0, 0), (0, 1, 0, 0), (0, 1, 1, 1), (1, 0, 0, 1), (1, 1, 0, 1)), (0, 1))
LATE = Mayrow(1, 1, 3, ((0, 0, 0, 1), (0, 0, 1, 2), (0, 1, 0, 1), (0, 1, 1, 2), (1, 0, 0, 1), (1, 0, 1, 2),
                        (2, 1, 0, 1), (2, 1, 1, 2)), (0, 1))
HALF = Mayrow(1, 1, 1, ((0, 0, 0, 0),), (0,))
ODD = Mayrow(1, 1, 2, ((0, 0, 0, 1), (0, 1, 0, 1), (1, 0, 0, 0), (1, 1, 0, 0)), (1,))
FAR = Mayrow(1, 1, 5, ((0, 0, 0, 1), (0, 0, 1, 3), (0, 1, 0, 2), (0, 1, 1, 4), (1, 0, 0, 1), (1, 1, 0, 2),
                       (2, 0, 0, 1), (2, 1, 0, 2), (3, 0, 0, 3), (3, 1, 0, 4), (4, 0, 0, 3), (4, 1, 0, 4)), (1, 4))
# The plain row of the document: at each place it writes whether the number of ones behind it is odd.
PARITY = Passes(1, 1, ((0, 1), (1, 0)), (0, 1), ((((0, 0), (1, 0)), ((0, 0), (1, 0))),))

# The pairs of a letter and an answer letter that count.
COUNTS = ((0, 2), (0, 3), (1, 0), (1, 1), (1, 2), (1, 3))

# Rows whose tables have just 60 states, and just 61.
SIXTY = Mayrow(1, 1, 6, (
    (0, 0, 1, 1), (0, 0, 1, 4), (0, 1, 0, 1), (1, 0, 0, 1), (1, 0, 0, 3), (1, 0, 1, 3), (1, 0, 1, 5), (1, 1, 0, 2),
    (1, 1, 1, 1), (1, 1, 1, 3), (2, 0, 0, 3), (2, 0, 0, 5), (2, 0, 1, 0), (2, 0, 1, 1), (2, 0, 1, 3), (2, 1, 0, 4),
    (2, 1, 0, 5), (3, 0, 1, 4), (3, 1, 0, 5), (3, 1, 1, 3), (3, 1, 1, 4), (4, 0, 0, 2), (4, 0, 0, 5), (4, 0, 1, 4),
    (4, 1, 0, 3), (4, 1, 1, 2), (5, 0, 1, 2), (5, 0, 1, 4), (5, 1, 0, 0), (5, 1, 1, 0)), (1, 3))
SIXTY_ONE = Mayrow(1, 1, 6, (
    (0, 0, 0, 3), (0, 0, 1, 0), (0, 0, 1, 1), (0, 1, 1, 4), (1, 0, 0, 5), (1, 1, 0, 5), (1, 1, 1, 3), (2, 0, 0, 4),
    (2, 0, 0, 5), (2, 0, 1, 2), (2, 0, 1, 5), (2, 1, 0, 3), (2, 1, 1, 0), (3, 0, 0, 4), (3, 0, 1, 2), (3, 1, 0, 0),
    (3, 1, 0, 2), (3, 1, 1, 5), (4, 0, 1, 3), (4, 0, 1, 4), (4, 1, 1, 1), (5, 0, 0, 0), (5, 0, 0, 1), (5, 0, 1, 0),
    (5, 1, 0, 5), (5, 1, 1, 2)), (0, 3))


def _letters(lasts, nexts):
    return tuple([bool(last) for last in lasts]), nexts


# What tells tables with just 60, and just 61, vectors of texts [7.5].
SIXTY_VECTORS = _letters((0, 0, 1, 1, 0, 1), ((3, 1), (0, 4), (1, 5), (2, 3), (4, 0), (5, 1)))
SIXTY_ONE_VECTORS = _letters((0, 1, 1, 1, 1, 1, 0), ((5, 4), (2, 2), (3, 1), (0, 3), (2, 5), (6, 0), (2, 5)))


def random_row(seed, reads=1, writes=1, most=3):
    """A row with at most so many states."""
    chance = random.Random(seed)
    states = chance.randint(1, most)
    choices = [(state, letter, answer, following) for state in range(states) for letter in range(2 ** reads)
               for answer in range(2 ** writes) for following in range(states)]
    many = chance.randint(0, min(len(choices), 3 * states * 2 ** reads))
    chance.shuffle(choices)
    lasts = chance.sample(range(states), chance.randint(0, states))
    return Mayrow(reads, writes, states, tuple(choices[:many]), tuple(lasts))


def ring_row(lasts):
    """A row that writes 1 at first, and then anything but 0 and 1 to a 0, or anything to a 1, at each fifth letter.

    To all other letters, which are 0, it writes 0. It stands in the states 1 to 5 in turn.
    """
    choices = [(0, 0, 1, 1)] + [(state, 0, 0, state + 1) for state in range(1, 5)]
    choices += [(5, letter, answer, 1) for letter, answer in COUNTS]
    return Mayrow(1, 2, 6, tuple(choices), lasts)


def counter_row(begun):
    """A row whose walks together are a counter: a state in which none of them can be is a digit that is counted up.

    The pair (0, 1) begins with the states `begun`, and (0, 0) waits. Each other one counts up one digit, if the lower
    ones are full, and otherwise begins anew with all states. When all digits are full, no walk is left.
    """
    digits = (1, 2, 3, 4, 5, 0)
    every = tuple(range(6))
    choices = [(state, 0, 0, state) for state in every] + [(state, 0, 1, one) for state in every for one in begun]
    for at, count in enumerate(COUNTS):
        choices += [(state,) + count + (one,) for state in digits[:at] for one in every]
        choices += [(state,) + count + (state,) for state in digits[at + 1:]]
        choices += [(digits[at],) + count + (one,) for one in digits[:min(at, 4)]]
    return Mayrow(1, 2, 6, tuple(choices), every)


def random_rows(seed, reads=1, writes=1, many=4):
    """Rows of a table, not the least ones."""
    chance = random.Random(seed)
    return tuple([(chance.random() < 0.5, tuple([chance.randrange(many) for _ in range(2 ** (reads + writes))]))
                  for _ in range(many)])


def random_table(seed, reads=1, writes=1, many=4):
    """A table with at most so many states."""
    return Table.told(reads, writes, random_rows(seed, reads, writes, many))


def widths_table(lasts, reads=1, writes=1, back=None):
    """The table of all pairs whose widths are told: the width k leads to the state k.

    `lasts` has a boolean for each state; behind the last state comes the state `back`, or that one again.
    """
    many = len(lasts)
    behind = many - 1 if back is None else back
    nexts = [k + 1 if k + 1 < many else behind for k in range(many)]
    return Table.told(reads, writes, tuple([(bool(lasts[k]), (nexts[k],) * 2 ** (reads + writes))
                                            for k in range(many)]))


def round_table(many, last, reads=1, writes=1):
    """The table of all pairs whose width has the rest `last` when divided by `many`."""
    return widths_table([k == last for k in range(many)], reads, writes, back=0)


def branched_table(tail, rounds, holes=None, escape=False):
    """A table that reads one line and writes two: `tail` steps, then an answer letter chooses one of the rounds.

    The questions of one width all lead to one set. There are `tail` sets of one state, and then as many as the
    least common multiple of the lengths of the rounds. All sets end, unless `holes` tells for each round which
    place of it is no last state. With `escape` each answer letter to a question letter 1 leads to a useful state.
    """
    bases = [tail + sum(rounds[:at]) for at in range(len(rounds))]
    dead = tail + sum(rounds)
    rows = [(True, _moves(dead, {at % 2: at + 1}, escape)) for at in range(tail - 1)]
    rows.append((True, _moves(dead, {answer: base for answer, base in enumerate(bases)}, escape)))
    for at, many in enumerate(rounds):
        for place in range(many):
            last = holes is None or place != holes[at]
            # Another letter at the begin of each round keeps its states apart, also if all of them are last ones.
            ways = {3 if place == 0 else 0: bases[at] + (place + 1) % many}
            rows.append((last, _moves(dead, ways, escape)))
    rows.append((False, (dead,) * 8))
    return Table.told(1, 2, tuple(rows))


def _moves(dead, ways, escape):
    least = ways[min(ways)]
    by_nought = [ways.get(answer, dead) for answer in range(4)]
    by_one = [ways.get(answer, least if escape else dead) for answer in range(4)]
    return tuple(by_nought + by_one)


def moves_table(reads, writes, lasts, moves):
    """The table of moves (state, letter, answer letter, next state); all others lead to a state without use.

    `lasts` has a boolean for each state.
    """
    many = len(lasts)
    rows = [[many] * 2 ** (reads + writes) for _ in range(many + 1)]
    for state, letter, answer, following in moves:
        assert rows[state][letter * 2 ** writes + answer] == many
        rows[state][letter * 2 ** writes + answer] = following
    return Table.told(reads, writes, tuple([(last, tuple(row)) for last, row in zip([*lasts, False], rows)]))


def letters_table(lasts, nexts):
    """A table that writes noughts only; `nexts` has for each state the next ones by both letters."""
    moves = [(at, letter, 0, following) for at, row in enumerate(nexts) for letter, following in enumerate(row)]
    return moves_table(1, 1, lasts, moves)


def register_table(delay, lasts):
    """A table with one answer letter more for each 1 that is read: it goes through places, and is last at some.

    Behind `delay` letters the vectors are met in the order of binary numbers: a token at the place k, from 1 on,
    stands for 2 ** (k - 1). `lasts` has a boolean for each place.
    """
    moves = [(at, letter, 0, at + 1) for at in range(delay) for letter in (0, 1)]
    moves += [(delay, 0, 0, delay), (delay, 1, 0, delay), (delay, 1, 1, delay + 1)]
    moves += [(delay + at, letter, 0, delay + at + 1) for at in range(1, len(lasts)) for letter in (0, 1)]
    return moves_table(1, 1, [False] * (delay + 1) + list(lasts), moves)


def counters_table(delay):
    """A table of which the questions of the width 62 have 2016 unlike vectors less `delay`.

    The letter 0 leads to two counters, of the letters 1 and 2; the letter 1 leads, behind a delay, to one counter.
    """
    moves = [(0, 0, 0, 1), (0, 1, 0, 6 if delay else 4)]
    for letter in range(4):
        moves += [(1, letter, 0, 1), (2, letter, 0, 2), (3, letter, 1, 3), (4, letter, 0, 4), (5, letter, 2, 5)]
    moves += [(1, 1, 1, 2), (1, 2, 1, 3), (4, 1, 1, 5)]
    for at in range(delay):
        following = 4 if at == delay - 1 else 7 + at
        moves += [(6 + at, letter, 0, following) for letter in range(4)]
    return moves_table(2, 2, [False, True, True, True, True, True] + [False] * delay, moves)


def tokens_table(places, is_answered):
    """A table that puts as many tokens on the first place as the letter tells; they go on, and the last place is last.

    If `is_answered`, each question has one more answer, of noughts.
    """
    moves = [(0, letter, 0, 0) for letter in range(4)]
    moves += [(0, letter, said, 1) for letter in range(4) for said in range(1, letter + 1)]
    moves += [(at, letter, 0, at + 1) for at in range(1, places) for letter in range(4)]
    return moves_table(2, 2, [is_answered] + [at == places for at in range(1, places + 1)], moves)


def ones_table(power):
    """A table that writes at most so many ones, where ones are read."""
    moves = [(at, letter, 0, at) for at in range(power + 1) for letter in (0, 1)]
    moves += [(at, 1, 1, at + 1) for at in range(power)]
    return moves_table(1, 1, [True] * (power + 1), moves)


def chain_table(rings):
    """A table of rings of these lengths; a 1 is written where the begin of one leads on to the next one."""
    bases = [sum(rings[:at]) for at in range(len(rings) + 1)]
    moves = []
    for at, many in enumerate(rings):
        for letter in (0, 1):
            moves += [(bases[at] + place, letter, 0, bases[at] + (place + 1) % many) for place in range(many)]
            if at + 1 < len(rings):
                moves.append((bases[at], letter, 1, bases[at + 1]))
    return moves_table(1, 1, [place == bases[-2] for place in range(bases[-1])], moves)


def late_table(many):
    """A single table that looks just so many letters ahead, and no fewer, with 2 * `many` + 2 useful states.

    The first answer letter is the letter that stands so many places later; all others are noughts.
    """
    end = 2 * many + 1
    moves = [(0, letter, answer, 1 + answer * many) for letter, answer in ((0, 0), (0, 1), (1, 0), (1, 1))]
    for answer in (0, 1):
        first = 1 + answer * many
        moves += [(first + at, letter, 0, first + at + 1) for at in range(many - 1) for letter in (0, 1)]
        moves.append((first + many - 1, answer, 0, end))
    moves += [(end, letter, 0, end) for letter in (0, 1)]
    return moves_table(1, 1, [at == end for at in range(end + 1)], moves)


def rings_table(one, two):
    """A single table that looks no number of letters ahead: one of two rings is chosen by the first answer letter.

    The letter 2 leads out of the first ring, and the letter 3 out of the second one, from one state of each.
    """
    end = one + two + 1
    moves = [(0, 0, 0, 1), (0, 0, 1, 1 + one), (1, 2, 0, end), (1 + one, 3, 0, end)]
    moves += [(1 + at, letter, 0, 1 + (at + 1) % one) for at in range(one) for letter in (0, 1)]
    moves += [(1 + one + at, letter, 0, 1 + one + (at + 1) % two) for at in range(two) for letter in (0, 1)]
    return moves_table(2, 1, [at == end for at in range(end + 1)], moves)


def parts_table(parts, places):
    """A table with finitely many vectors: each of its letters leads to a part, which is a pair (base, steps).

    A part puts, for each letter less than its base, so many tokens on one place, from which they go on for so many
    steps. So it has base ** steps vectors, and ahead of them there is one more.
    """
    first = 1 + len(parts)
    moves = []
    for at, (base, steps) in enumerate(parts):
        moves.append((0, at, 0, 1 + at))
        for letter in range(4):
            moves.append((1 + at, letter, 0, 1 + at))
            moves += [(1 + at, letter, said, first + places - steps) for said in range(1, letter + 1) if letter < base]
    moves += [(first + at, letter, 0, first + at + 1) for at in range(places - 1) for letter in range(4)]
    return moves_table(2, 2, [False] * (first + places - 1) + [True], moves)


def spread_table(delay):
    """A table with 8 useful states and 2000 vectors, or with one more of both for the delay 1."""
    moves = [(0, letter, 0, 1) for letter in range(4)] if delay else []
    for letter, places in enumerate(((7,), (7, 2), (4, 2, 4), (1,))):
        moves.append((delay, letter, 0, delay))
        moves += [(delay, letter, said, delay + place) for said, place in zip((1, 2, 3), places)]
        moves += [(delay + place, letter, 0, delay + place + 1) for place in range(1, 7)]
    return moves_table(2, 2, [False] * (delay + 7) + [True], moves)


def beats_table(tail, many):
    """All pairs whose answers have a 1 at most at the places with the rest `tail` when divided by `many`.

    Ahead of these there are `tail` places with other answers.
    """
    nexts = [at + 1 if at + 1 < tail + many else tail for at in range(tail + many)]
    moves = [(at, letter, 0, nexts[at]) for at in range(tail + many) for letter in (0, 1)]
    moves += [(tail, letter, 1, nexts[tail]) for letter in (0, 1)] + [(at, 1, 1, nexts[at]) for at in range(tail)]
    return moves_table(1, 1, [True] * (tail + many), moves)


def branches_table(many):
    """A table in which questions that begin with 0 have one answer, and others up to any number of them.

    Behind the letter 0 there are so many states.
    """
    nexts = [at + 1 if at < many else 1 for at in range(many + 1)]
    moves = [(0, 0, 0, 1), (0, 1, 0, many + 1)]
    for letter in (0, 1):
        moves += [(at, letter, int(at == 1), nexts[at]) for at in range(1, many + 1)]
        moves += [(many + 1, letter, 0, many + 2), (many + 2, letter, 0, many + 1), (many + 2, letter, 1, many + 1)]
    return moves_table(1, 1, [True] * (many + 3), moves)


def ring_passes(tail, many):
    """A plain row that writes noughts, with `tail` left states and then a ring of left states."""
    nexts = [at + 1 if at + 1 < tail + many else tail for at in range(tail + many)]
    return Passes(1, 1, ((0, 0),), (0,), tuple([(((0, following),),) * 2 for following in nexts]))


def last_passes(tail, many):
    """The same with a right state for each last letter, and one for the end, where the left state 0 is taken."""
    nexts = [at + 1 if at + 1 < tail + many else tail for at in range(tail + many)]
    rows = tuple([(((0, 0), (0, following), (0, following)),) * 2 for following in nexts])
    return Passes(1, 1, ((1, 2), (1, 1), (2, 2)), (0, 1, 2), rows)


def rings_passes(tail, rings):
    """A plain row that writes noughts, with one of four rings of left states for each last letter.

    There are 1 + `tail` sets, and then as many as the least common multiple of the lengths of the rings, and the
    empty set.
    """
    bases = [tail + sum(rings[:at]) for at in range(len(rings))]
    rows = []
    for left in range(tail + sum(rings)):
        entry = [0]
        for base, many in zip(bases, rings):
            if left < tail:
                entry.append(left + 1 if left + 1 < tail else base)
            else:
                entry.append(base + (left - base + 1) % many if base <= left < base + many else 0)
        rows.append((tuple([(0, following) for following in entry]),) * 4)
    rights = ((1, 2, 3, 4),) + tuple([(at,) * 4 for at in range(1, 5)])
    return Passes(2, 1, rights, (0, 1, 2, 3, 4), tuple(rows))


def random_passes(seed, reads=1, writes=1, most=3):
    """A plain row with at most so many right states and left states."""
    chance = random.Random(seed)
    rights, lefts = chance.randint(1, most), chance.randint(1, most)
    nexts = tuple([tuple([chance.randrange(rights) for _ in range(2 ** reads)]) for _ in range(rights)])
    starts = tuple([right for right in range(rights) if chance.random() < 0.8])
    rows = tuple([tuple([tuple([(chance.randrange(2 ** writes), chance.randrange(lefts)) for _ in range(rights)])
                         for _ in range(2 ** reads)]) for _ in range(lefts)])
    return Passes(reads, writes, nexts, starts, rows)
