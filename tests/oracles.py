"""What the document says, worked out as plainly as can be, to compare the package with it."""

from itertools import product


def texts(letters, width):
    """All texts of this width, ascending."""
    return ["".join(marks) for marks in product("0123"[:letters], repeat=width)]


def walk_ends(row, question):
    """A list with (text, state) for each walk over the question."""
    walks = [("", 0)]
    for mark in question:
        walks = [(text + str(answer), following) for text, state in walks
                 for begin, letter, answer, following in row.choices if begin == state and letter == int(mark)]
    return walks


def row_answers(row, question):
    """The ascending tuple of the answers."""
    return tuple(sorted({text for text, state in walk_ends(row, question) if state in row.lasts}))


def end_state(table, question, answer, state=0):
    """The state to which a pair leads."""
    for letter, said in zip(question, answer):
        state = table.rows[state][1][int(letter) * 2 ** table.writes + int(said)]
    return state


def has_pair(table, question, answer):
    """Whether the table has a pair of one width."""
    return table.rows[end_state(table, question, answer)][0]


def pairs_of(table, width):
    """All pairs of the table of this width, in their order."""
    return [(question, answer) for question in texts(2 ** table.reads, width)
            for answer in texts(2 ** table.writes, width) if has_pair(table, question, answer)]


def pairs_to(table, most):
    """All pairs of the table of at most this width, in their order."""
    return [pair for width in range(most + 1) for pair in pairs_of(table, width)]


def row_pairs_to(row, most):
    """All pairs of a mayrow of at most this width, in their order."""
    return [(question, answer) for width in range(most + 1) for question in texts(2 ** row.reads, width)
            for answer in row_answers(row, question)]


def useful(table):
    """The useful states of a table, ascending."""
    found = {state for state, (last, _) in enumerate(table.rows) if last}
    while True:
        wider = found | {state for state, (_, nexts) in enumerate(table.rows) if found & set(nexts)}
        if wider == found:
            return tuple(sorted(found))
        found = wider


def chain_sizes(table, other):
    """The number of the sets of point 4.3 that are met, and that of the states of the table behind another one.

    The first one is `None` if it is more than 2000, and the second one if it is more than 60.
    """
    kept, others = useful(table), useful(other)
    betweens, answers = 2 ** table.writes, 2 ** other.writes
    first = frozenset([(0, 0)] if 0 in kept and 0 in others else [])
    behind, waiting = {first: None}, [first]
    while waiting:
        met = waiting.pop()
        behind[met] = []
        for letter, answer in product(range(2 ** table.reads), range(answers)):
            pairs = {(table.rows[p][1][letter * betweens + between], other.rows[q][1][between * answers + answer])
                     for p, q in met for between in range(betweens)}
            following = frozenset([(p, q) for p, q in pairs if p in kept and q in others])
            behind[met].append(following)
            if following not in behind:
                behind[following] = None
                waiting.append(following)
        if len(behind) > 2000:
            return None, None
    kinds = {met: any(table.rows[p][0] and other.rows[q][0] for p, q in met) for met in behind}
    while True:
        finer = {met: (kinds[met],) + tuple([kinds[following] for following in behind[met]]) for met in behind}
        names = {kind: name for name, kind in enumerate(set(finer.values()))}
        if len(names) == len(set(kinds.values())):
            return len(behind), len(names) if len(names) <= 60 else None
        kinds = {met: names[finer[met]] for met in behind}


def is_plain_int(value, below):
    """Whether the value is an integer, no boolean, from 0 on and below another one."""
    return type(value) is int and 0 <= value < below


def is_text(value, letters):
    """Whether the value is a text of these letters."""
    return type(value) is str and len(value) <= 200 and set(value) <= set("0123"[:letters])


def is_within_paper(table, other, value):
    """Whether the value is a paper of point 3.4."""
    if type(value) is not tuple or not value or type(value[0]) is not str:
        return False
    if value[0] == "beyond" and len(value) == 3:
        if not is_text(value[1], 2 ** table.reads) or not is_text(value[2], 2 ** table.writes):
            return False
        return (len(value[1]) == len(value[2]) and has_pair(table, *value[1:]) and not has_pair(other, *value[1:]))
    if value[0] != "within" or len(value) != 2 or type(value[1]) is not tuple:
        return False
    bounds = (len(table.rows), len(other.rows))
    for pair in value[1]:
        if type(pair) is not tuple or len(pair) != 2 or not all(map(is_plain_int, pair, bounds)):
            return False
        if table.rows[pair[0]][0] and not other.rows[pair[1]][0]:
            return False
        if not all(nexts in value[1] for nexts in zip(table.rows[pair[0]][1], other.rows[pair[1]][1])):
            return False
    return (0, 0) in value[1] and list(value[1]) == sorted(set(value[1]))


def sets_behind(table, states, letter):
    """The set that follows a set by a letter [5.1]."""
    many = 2 ** table.writes
    nexts = {table.rows[state][1][int(letter) * many + answer] for state in states for answer in range(many)}
    return tuple(sorted(nexts & set(useful(table))))


def is_end_paper(table, value):
    """Whether the value is a paper of point 5.4."""
    if type(value) is not tuple or len(value) != 2 or type(value[0]) is not str:
        return False
    if value[0] == "question":
        if not is_text(value[1], 2 ** table.reads):
            return False
        return not any(has_pair(table, value[1], answer) for answer in texts(2 ** table.writes, len(value[1])))
    if value[0] != "answered" or type(value[1]) is not tuple or len(value[1]) > 2000:
        return False
    kept = useful(table)
    for states in value[1]:
        if type(states) is not tuple or not all(is_plain_int(state, 60) and state in kept for state in states):
            return False
        if list(states) != sorted(set(states)) or not any(table.rows[state][0] for state in states):
            return False
        if not all(sets_behind(table, states, letter) in value[1] for letter in range(2 ** table.reads)):
            return False
    first = (0,) if 0 in kept else ()
    return first in value[1] and list(value[1]) == sorted(set(value[1]))
