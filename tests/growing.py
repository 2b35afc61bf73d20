"""Stages 9 and 10 worked out as plainly as can be: growth, its papers, and how far ahead one must look."""

from itertools import product

from tests import counting, oracles


def is_number(value):
    """Whether the value is an integer from 0 on of at most sixty digits, and no boolean."""
    return type(value) is int and 0 <= value < 10 ** 60


def moves(table):
    """All moves (state, letter, answer letter, next state) between useful states [9.1]."""
    kept = oracles.useful(table)
    return [(state, letter, answer, counting.next_state(table, state, letter, answer)) for state in kept
            for letter in range(2 ** table.reads) for answer in range(2 ** table.writes)
            if counting.next_state(table, state, letter, answer) in kept]


def counted_questions(table):
    """For each question of one letter or more how many answer texts lead from each useful state to each one.

    The tables of these numbers, none told greater than 2, are finitely many: a list of all of them.
    """
    kept = oracles.useful(table)
    places = {state: place for place, state in enumerate(kept)}
    singles = []
    for letter in range(2 ** table.reads):
        counts = [[0] * len(kept) for _ in kept]
        for state, read, _, following in moves(table):
            if read == letter:
                counts[places[state]][places[following]] += 1
        singles.append(tuple([tuple([min(2, number) for number in row]) for row in counts]))
    found = list(dict.fromkeys(singles))
    known = set(found)
    for one in found:
        for other in singles:
            columns = list(zip(*other))
            both = tuple([tuple([min(2, sum([a * b for a, b in zip(row, column)])) for column in columns])
                          for row in one])
            if both not in known:
                known.add(both)
                found.append(both)
    return found


def growth(table):
    """How the table grows [9.3], by all questions."""
    found = counted_questions(table)
    many = len(oracles.useful(table))
    if any(one[place][place] > 1 for one in found for place in range(many)):
        return ("doubling",)
    passages = [(p, q) for p, q in product(range(many), repeat=2) if p != q
                and any(one[p][p] and one[p][q] and one[q][q] for one in found)]
    leads = {(p, q) for p, q in product(range(many), repeat=2) if p == q or any(one[p][q] for one in found)}
    chains, power = [[passage] for passage in passages], 0
    while chains:
        power += 1
        chains = [chain + [passage] for chain in chains for passage in passages
                  if (chain[-1][1], passage[0]) in leads]
        # Only the last passage counts for what can follow.
        chains = list({chain[-1]: chain for chain in chains}.values())
    if power:
        return ("power", power)
    return ("most", max([counting.answers_told(table, held) for _, held in counting.met_vectors(table)]))


def is_pair(table, value):
    """Whether the value is a tuple of a question and an answer text of one width."""
    return (type(value) is tuple and len(value) == 2 and oracles.is_text(value[0], 2 ** table.reads)
            and oracles.is_text(value[1], 2 ** table.writes) and len(value[0]) == len(value[1]))


def is_growth_paper(table, value):
    """Whether the value is a growth paper [9.5]."""
    if type(value) is not tuple or not value or type(value[0]) is not str:
        return False
    judges = {"most": (4, is_most), "power": (5, is_power), "doubling": (4, is_doubling)}
    if value[0] not in judges or len(value) != judges[value[0]][0]:
        return False
    return bool(judges[value[0]][1](table, *value[1:]))


def is_most(table, number, question, vectors):
    """Whether these make a paper of the form most."""
    if not is_number(number) or not oracles.is_text(question, 2 ** table.reads) or type(vectors) is not tuple:
        return False
    held = tuple([int(state == 0) for state in oracles.useful(table)])
    first = held
    for letter in question:
        held = counting.vectors_after(table, held)[int(letter)]
    if counting.answers_told(table, held) != number or len(vectors) > 2000:
        return False
    for vector in vectors:
        if type(vector) is not tuple or len(vector) != len(first) or not all(map(is_number, vector)):
            return False
        if counting.answers_told(table, vector) > number:
            return False
    if list(vectors) != sorted(set(vectors)) or first not in vectors:
        return False
    return all(following in vectors for vector in vectors for following in counting.vectors_after(table, vector))


def is_doubling(table, begin, middle, end):
    """Whether these make a paper of the form doubling."""
    if not is_pair(table, begin) or not is_pair(table, end) or type(middle) is not tuple or len(middle) != 3:
        return False
    if not is_pair(table, (middle[0], middle[1])) or not is_pair(table, (middle[0], middle[2])):
        return False
    state = oracles.end_state(table, *begin)
    return (middle[1] != middle[2] and oracles.end_state(table, middle[0], middle[1], state) == state
            and oracles.end_state(table, middle[0], middle[2], state) == state
            and table.rows[oracles.end_state(table, *end, state)][0])


def is_power(table, steps, ranks, heights, numbers):
    """Whether these make a paper of the form power."""
    if type(steps) is not tuple or len(steps) < 3 or len(steps) % 2 == 0:
        return False
    state = 0
    for at, step in enumerate(steps):
        if at % 2 == 0:
            if not is_pair(table, step):
                return False
            state = oracles.end_state(table, *step, state)
            continue
        if type(step) is not tuple or len(step) != 4 or not all(is_pair(table, (step[0], one)) for one in step[1:]):
            return False
        other = oracles.end_state(table, step[0], step[2], state)
        if (other == state or oracles.end_state(table, step[0], step[1], state) != state
                or oracles.end_state(table, step[0], step[3], other) != other):
            return False
        state = other
    return table.rows[state][0] and is_bound(table, len(steps) // 2, ranks, heights, numbers)


def is_bound(table, power, ranks, heights, numbers):
    """Whether ranks, heights and numbers are as a paper of the form power has them."""
    kept = oracles.useful(table)
    for value in (ranks, heights):
        if type(value) is not tuple or len(value) != len(kept) or not all(map(is_number, value)):
            return False
    rank, height = dict(zip(kept, ranks)), dict(zip(kept, heights))
    if max(ranks) > power:
        return False
    every = moves(table)
    for one in every:
        if rank[one[3]] < rank[one[0]] or height[one[3]] > height[one[0]]:
            return False
        if height[one[3]] == height[one[0]] and any(
                one != other and (one[0], one[1], one[3]) == (other[0], other[1], other[3]) for other in every):
            return False
    triples = [three for three in product(kept, repeat=3) if len({rank[state] for state in three}) == 1]
    if type(numbers) is not tuple or len(numbers) != len(triples):
        return False
    for pair, three in zip(numbers, triples):
        if type(pair) is not tuple or len(pair) != 2 or pair[0] != three or type(pair[0]) is not tuple:
            return False
        if not all(type(state) is int for state in pair[0]) or type(pair[1]) is not int or abs(pair[1]) >= 10 ** 60:
            return False
    told = dict(numbers)
    for three in triples:
        for letter in range(2 ** table.reads):
            columns = [[one[3] for one in every if one[0] == state and one[1] == letter] for state in three]
            if any(told[after] > told[three] for after in product(*columns) if after in told
                   and rank[after[0]] == rank[three[0]]):
                return False
    return all(told[p, q, q] > told[p, p, q] for p, q in product(kept, repeat=2) if p != q and rank[p] == rank[q])


def splits_begun(table):
    """The set of the splits that begin [10.2]."""
    every = moves(table)
    return {tuple(sorted((one[3], other[3]))) for one in every for other in every
            if one[:2] == other[:2] and one[2] != other[2]}


def splits_after(table, split):
    """The set of the splits to which letters lead from one."""
    every = moves(table)
    return {tuple(sorted((one[3], other[3]))) for one in every for other in every
            if one[0] == split[0] and other[0] == split[1] and one[1] == other[1]}


def open_splits(table):
    """The set of the open splits."""
    found = splits_begun(table)
    while True:
        wider = found.union(*[splits_after(table, split) for split in found])
        if wider == found:
            return found
        found = wider


def least_double(table):
    """The least question with two answers, or `None`."""
    for question, held in counting.met_vectors(table, 2):
        if counting.answers_told(table, held) > 1:
            return question
    return None


def least_ahead(table):
    """The least number of letters that must be seen ahead, or `None`: by what is left of the splits that begin."""
    left, many = splits_begun(table), 0
    while left and many < 2000:
        left = set().union(*[splits_after(table, split) for split in left])
        many += 1
    return None if left else many


def looks_ahead(table, ahead, most):
    """Whether the table looks so far ahead [10.3], as far as all pairs up to a width show it."""
    letters = {}
    for width in range(most + 1):
        for question in counting.questions(table, width):
            for answer in counting.answers(table, question):
                for at in range(width - ahead):
                    begin = question[:at + ahead + 1]
                    if letters.setdefault(begin, answer[at]) != answer[at]:
                        return False
    return True


def are_splits(table, value):
    """Whether the value is an ascending tuple of splits."""
    kept = oracles.useful(table)
    if type(value) is not tuple:
        return False
    for split in value:
        if type(split) is not tuple or len(split) != 2 or not all(type(state) is int for state in split):
            return False
        if split[0] > split[1] or split[0] not in kept or split[1] not in kept:
            return False
    return list(value) == sorted(set(value))


def is_single_paper(table, value):
    """Whether the value is a single paper [10.4]."""
    if type(value) is not tuple or not value or type(value[0]) is not str:
        return False
    if value[0] == "double" and len(value) == 4:
        return (all(is_pair(table, (value[1], one)) and oracles.has_pair(table, value[1], one) for one in value[2:])
                and value[2] != value[3])
    if value[0] != "single" or len(value) != 2 or not are_splits(table, value[1]):
        return False
    if any(table.rows[one][0] and table.rows[two][0] for one, two in value[1]):
        return False
    return splits_begun(table).union(*[splits_after(table, split) for split in value[1]]) <= set(value[1])


def is_ahead_paper(table, value):
    """Whether the value is an ahead paper [10.5] of a single table."""
    if type(value) is not tuple or len(value) != 4 or type(value[0]) is not str:
        return False
    if value[0] == "never":
        return is_never(table, *value[1:])
    if value[0] != "ahead" or not is_number(value[1]) or type(value[2]) is not tuple:
        return False
    for row in value[2]:
        if type(row) is not tuple or len(row) != 3 or not is_number(row[2]) or not 1 <= row[2] <= value[1]:
            return False
    if not are_splits(table, tuple([row[:2] for row in value[2]])):
        return False
    ranks = {row[:2]: row[2] for row in value[2]}
    if not splits_begun(table) <= set(ranks):
        return False
    if not all(after in ranks and ranks[after] < ranks[split] for split in ranks for after in splits_after(table, split)):
        return False
    return value[3] is None if value[1] == 0 else is_clash(table, value[1], value[3])


def is_clash(table, ahead, value):
    """Whether the value is the clash of an ahead paper."""
    if type(value) is not tuple or len(value) != 5 or not is_number(value[0]):
        return False
    index, question, answer, other, other_answer = value
    for pair in ((question, answer), (other, other_answer)):
        if not is_pair(table, pair) or not oracles.has_pair(table, *pair):
            return False
    if len(question) < index + ahead or question[:index + ahead] != other[:index + ahead]:
        return False
    return len(other) >= index + ahead and answer[index] != other_answer[index]


def is_never(table, start, ring, ends):
    """Whether these make a paper that no number of letters is enough."""
    for value in (start, ring):
        if type(value) is not tuple or len(value) != 3 or not all(is_pair(table, (value[0], one)) for one in value[1:]):
            return False
    if type(ends) is not tuple or len(ends) != 4 or not is_pair(table, ends[:2]) or not is_pair(table, ends[2:]):
        return False
    one, two = [oracles.end_state(table, start[0], answer) for answer in start[1:]]
    return (start[1] != start[2] and ring[0] != "" and oracles.end_state(table, ring[0], ring[1], one) == one
            and oracles.end_state(table, ring[0], ring[2], two) == two
            and table.rows[oracles.end_state(table, ends[0], ends[1], one)][0]
            and table.rows[oracles.end_state(table, ends[2], ends[3], two)][0])
