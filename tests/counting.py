"""Stages 6, 7 and 8 worked out as plainly as can be: numbers, vectors, ranks, plain rows, and their papers."""

from itertools import product

from mayrows.least.passes import Passes
from tests import oracles


def answers(table, question):
    """The answers of a question, ascending."""
    return [answer for answer in oracles.texts(2 ** table.writes, len(question))
            if oracles.has_pair(table, question, answer)]


def questions(table, width):
    """All questions of a width, ascending."""
    return oracles.texts(2 ** table.reads, width)


def questions_to(table, most):
    """All questions of at most this width, in their order."""
    return [question for width in range(most + 1) for question in questions(table, width)]


def small(table):
    """The greatest width up to which all pairs are looked at."""
    return {2: 5, 3: 3}.get(table.reads + table.writes, 2)


def next_state(table, state, letter, answer):
    """The state to which a letter and an answer letter lead."""
    return table.rows[state][1][int(letter) * 2 ** table.writes + int(answer)]


def pair_counts(table, many):
    """The numbers p(0), p(1) and so on, so many of them, through all states."""
    counts = [int(last) for last, _ in table.rows]
    found = []
    for _ in range(many):
        found.append(counts[0])
        counts = [sum([counts[following] for following in nexts]) for _, nexts in table.rows]
    return found


def is_recurrence(table, value, widths):
    """Whether the value is a recurrence, as far as so many widths show it."""
    if type(value) is not tuple or len(value) > 200:
        return False
    if not all(type(term) is int and abs(term) < 10 ** 60 for term in value):
        return False
    counts = pair_counts(table, len(value) + widths)
    return all(counts[n] == sum([term * counts[n - 1 - at] for at, term in enumerate(value)])
               for n in range(len(value), len(counts)))


def vector(table, question, most=None):
    """The vector of a question [6.4], by all answer texts of its width."""
    ends = [oracles.end_state(table, question, answer) for answer in oracles.texts(2 ** table.writes, len(question))]
    counts = [ends.count(state) for state in oracles.useful(table)]
    return tuple([count if most is None else min(count, most) for count in counts])


def vectors_after(table, held, most=None, kept=None):
    """The vectors behind one of them, by each letter [6.5]; `kept` are the useful states."""
    kept = oracles.useful(table) if kept is None else kept
    found = []
    for letter in range(2 ** table.reads):
        counts = {state: 0 for state in range(len(table.rows))}
        for state, number in zip(kept, held):
            if number:
                for answer in range(2 ** table.writes):
                    counts[next_state(table, state, letter, answer)] += number
        found.append(tuple([counts[state] if most is None else min(counts[state], most) for state in kept]))
    return found


def met_vectors(table, most=None, stop=2100):
    """The vectors in the order in which they are met, at most about so many, each with its least question."""
    kept = oracles.useful(table)
    first = tuple([int(state == 0) for state in kept])
    met = {first: ""}
    order = [first]
    for held in order:
        for letter, following in enumerate(vectors_after(table, held, most, kept)):
            if following not in met:
                met[following] = met[held] + str(letter)
                order.append(following)
        if len(order) > stop:
            break
    return [(met[held], held) for held in order]


def width_vectors(table, width, most=None):
    """The set of the vectors of all questions of just this width."""
    kept = oracles.useful(table)
    layer = {tuple([int(state == 0) for state in kept])}
    for _ in range(width):
        layer = {following for held in layer for following in vectors_after(table, held, most, kept)}
    return layer


def answers_told(table, held):
    """How many answers a vector tells."""
    return sum([number for state, number in zip(oracles.useful(table), held) if table.rows[state][0]])


def text_vector(table, text, most):
    """The vector of a text up to a place [7.5], by all answer texts of its width; `most` is the place and 1."""
    return tuple([min(most, sum([table.rows[oracles.end_state(table, text, answer, state)][0]
                                 for answer in oracles.texts(2 ** table.writes, len(text))]))
                  for state in oracles.useful(table)])


def text_vectors(table, most, stop=70):
    """All vectors of texts, at most about so many."""
    kept = oracles.useful(table)
    found = [text_vector(table, "", most)]
    for held in found:
        numbers = dict(zip(kept, held))
        for letter in range(2 ** table.reads):
            longer = tuple([min(most, sum([numbers.get(next_state(table, state, letter, answer), 0)
                                           for answer in range(2 ** table.writes)])) for state in kept])
            if longer not in found:
                found.append(longer)
        if len(found) > stop:
            break
    return found


def led_on(table, rank, letter, held, total=False):
    """The rank to which a rank is led on [7.5, 8.4], or `None`."""
    kept = oracles.useful(table)
    state, rest = rank
    passed = 0
    for answer in range(2 ** table.writes):
        following = next_state(table, state, letter, answer)
        if state in kept and following in kept:
            number = held[kept.index(following)]
            if rest < number:
                return following, rest
            rest -= number
            passed += number
    if total and passed >= 1:
        return led_on(table, (state, passed - 1), letter, held)
    return None


def ranks(table, place, total=False):
    """All ranks up to a place."""
    held = text_vectors(table, place + 1)
    found = [(0, place)]
    for rank in found:
        for letter, one in product(range(2 ** table.reads), held):
            following = led_on(table, rank, letter, one, total)
            if following is not None and following not in found:
                found.append(following)
    return found


def is_too_much(table, place, total=False):
    """Whether there are more than 60 vectors or ranks up to a place."""
    return len(text_vectors(table, place + 1)) > 60 or len(ranks(table, place, total)) > 60


def right_state(passes, text):
    """The right state of a text [7.2]."""
    state = 0
    for letter in reversed(text):
        state = passes.rights[state][int(letter)]
    return state


def met_rights(passes):
    """The right states of all texts."""
    met = [0]
    for right in met:
        met += [following for following in dict.fromkeys(passes.rights[right]) if following not in met]
    return sorted(met)


def plain_answer(passes, question):
    """The answer of a plain row [7.3], or `None`."""
    if right_state(passes, question) not in passes.starts:
        return None
    left, said = 0, ""
    for at, letter in enumerate(question):
        answer, left = passes.lefts[left][int(letter)][right_state(passes, question[at + 1:])]
        said += str(answer)
    return said


def sets_after(passes, held):
    """The sets behind a set [7.4], by each letter and answer letter; members are pairs (left state, right state)."""
    found = {}
    met = met_rights(passes)
    for letter, said in product(range(2 ** passes.reads), range(2 ** passes.writes)):
        found[letter, said] = frozenset([
            (passes.lefts[left][letter][further][1], further) for left, right in held for further in met
            if passes.rights[further][letter] == right and passes.lefts[left][letter][further][0] == said])
    return found


def set_tuples(plain, stop=2100):
    """How many unlike tuples of sets there are [8.1], at most about so many."""
    first = tuple([frozenset([(0, right) for right in met_rights(row) if right in row.starts]) for row in plain])
    found = {first: True}
    order = [first]
    known = {}
    for held in order:
        columns = []
        for at, one in enumerate(held):
            if (at, one) not in known:
                known[at, one] = sets_after(plain[at], one)
            columns.append(known[at, one])
        for key in columns[0]:
            following = tuple([column[key] for column in columns])
            if following not in found:
                found[following] = True
                order.append(following)
        if len(order) > stop:
            break
    return len(order)


def union_pairs(plain, width):
    """All pairs of a width that one or more of the plain rows have, in their order."""
    found = {(question, plain_answer(row, question)) for row in plain
             for question in oracles.texts(2 ** row.reads, width)}
    return sorted([pair for pair in found if pair[1] is not None])


def nodes_after(passes, table, node):
    """The triples [7.6] or quadruples [7.7] to which one leads."""
    left, state, right = node[:3]
    found = []
    for letter in range(2 ** passes.reads):
        for further in met_rights(passes):
            if passes.rights[further][letter] != right:
                continue
            said, following = passes.lefts[left][letter][further]
            if len(node) == 3:
                found.append((following, next_state(table, state, letter, said), further))
            elif node[3] == 0:
                found.append((following, next_state(table, state, letter, said), further, 0))
                found += [(following, next_state(table, state, letter, less), further, 1) for less in range(said)]
            else:
                found += [(following, next_state(table, state, letter, any_one), further, 1)
                          for any_one in range(2 ** table.writes)]
    return found


def least_closed(passes, table, size):
    """The least closed set of triples, or of quadruples for the size 4."""
    found = [(0, 0, right, 0)[:size] for right in met_rights(passes) if right in passes.starts]
    known = set(found)
    for node in found:
        for following in nodes_after(passes, table, node):
            if following not in known:
                known.add(following)
                found.append(following)
    return tuple(sorted(found))


def greatest_closed(passes, table, size):
    """The greatest set without wrong nodes that has, with each node, all to which it leads."""
    bounds = (len(passes.lefts), len(table.rows), len(passes.rights), 2)[:size]
    kept = {node for node in product(*map(range, bounds)) if not is_wrong(table, node)}
    while True:
        good = {node for node in kept if all(following in kept for following in nodes_after(passes, table, node))}
        if good == kept:
            return tuple(sorted(kept))
        kept = good


def is_wrong(table, node):
    """Whether a node may be in no set of a paper."""
    if len(node) == 3:
        return node[2] == 0 and not table.rows[node[1]][0]
    return node[2] == 0 and node[3] == 1 and table.rows[node[1]][0]


def are_closed(passes, table, value, size):
    """Whether the value is a set of nodes as a paper has it."""
    bounds = (len(passes.lefts), len(table.rows), len(passes.rights), 2)[:size]
    if type(value) is not tuple or len(value) > 5000:
        return False
    for node in value:
        if type(node) is not tuple or len(node) != size or not all(map(oracles.is_plain_int, node, bounds)):
            return False
    if list(value) != sorted(set(value)):
        return False
    first = [(0, 0, right, 0)[:size] for right in met_rights(passes) if right in passes.starts]
    if not all(node in value for node in first):
        return False
    return not any(is_wrong(table, node) or not set(nodes_after(passes, table, node)) <= set(value) for node in value)


def is_pass_paper(passes, table, value):
    """Whether the value is a paper of point 7.6."""
    if type(value) is not tuple or len(value) != 2 or type(value[0]) is not str:
        return False
    if value[0] == "wrong":
        if not oracles.is_text(value[1], 2 ** table.reads):
            return False
        said = plain_answer(passes, value[1])
        return said is not None and not oracles.has_pair(table, value[1], said)
    return value[0] == "within" and are_closed(passes, table, value[1], 3)


def is_first_paper(passes, table, value):
    """Whether the value is a paper of point 7.7."""
    if type(value) is not tuple or not value or type(value[0]) is not str:
        return False
    if value[0] == "ahead" and len(value) == 3:
        if not oracles.is_text(value[1], 2 ** table.reads) or not oracles.is_text(value[2], 2 ** table.writes):
            return False
        said = plain_answer(passes, value[1])
        return (said is not None and len(value[1]) == len(value[2]) and oracles.has_pair(table, *value[1:])
                and value[2] < said)
    return value[0] == "first" and len(value) == 2 and are_closed(passes, table, value[1], 4)


def is_union_value(value, reads, writes, most):
    """Whether the value is a tuple of at most so many plain rows of these lines."""
    if type(value) is not tuple or len(value) > most:
        return False
    return all(isinstance(row, Passes) and (row.reads, row.writes) == (reads, writes) for row in value)
