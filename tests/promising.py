"""Stage 14 worked out as plainly as can be: whether promises hold, the papers against them, and what follows."""

from itertools import product

from mayrows.table.tables import Table
from tests import counting, gaming, oracles

WORDS = ("within", "alike", "answered", "most", "told", "ahead")


def pairs_ahead(table, other, most):
    """The least pair of at most this width that the first table has and the second one has not, or `None`."""
    return next((pair for pair in oracles.pairs_to(table, most) if not oracles.has_pair(other, *pair)), None)


def width_ahead(table, other):
    """The width of the least pair that the first table has and the second one has not, or `None`, for all widths."""
    layer, layers = frozenset([(0, 0)]), []
    while layer not in layers:
        if any(table.rows[one][0] and not other.rows[two][0] for one, two in layer):
            return len(layers)
        layers.append(layer)
        layer = frozenset([nexts for one, two in layer for nexts in zip(table.rows[one][1], other.rows[two][1])])
    return None


def least_question(table, most, is_wanted):
    """The least question of at most this width that is wanted for the number of its answers, or `None`."""
    return next((question for question in counting.questions_to(table, most)
                 if is_wanted(len(counting.answers(table, question)))), None)


def paper_against(promise, rows, most):
    """The paper against a promise that fits, as far as widths up to this one show it; `ahead` is told by its word."""
    table = Table.of(rows[promise[1]])
    if promise[0] in ("within", "alike"):
        other = Table.of(rows[promise[2]])
        found = [pairs_ahead(table, other, most)]
        if promise[0] == "alike":
            found.append(pairs_ahead(other, table, most))
        found = sorted([pair for pair in found if pair is not None], key=lambda pair: (len(pair[0]), pair))
        return ("pair",) + found[0] if found else None
    if promise[0] == "told":
        for width in range(most + 1):
            found = gaming.parted_pairs(table, promise[2], promise[3], width)
            if found is not None:
                return ("parts",) + found
        return None
    if promise[0] == "ahead":
        return None if gaming.can_answer(table, promise[2]) else ("asked",)
    wanted = (lambda many: many == 0) if promise[0] == "answered" else (lambda many: many > promise[2])
    question = least_question(table, most, wanted)
    return None if question is None else ("question", question)


def is_name(value):
    """Whether the value is a name."""
    return type(value) is str and 1 <= len(value) <= 8 and all("a" <= mark <= "z" for mark in value)


def is_promise(value):
    """Whether the value is a promise."""
    if type(value) is not tuple or len(value) < 2 or type(value[0]) is not str or not is_name(value[1]):
        return False
    rest = value[2:]
    if value[0] in ("within", "alike"):
        return len(rest) == 1 and is_name(rest[0])
    if value[0] == "answered":
        return rest == ()
    if value[0] in ("most", "ahead"):
        return len(rest) == 1 and oracles.is_plain_int(rest[0], 100 if value[0] == "most" else 4)
    if value[0] != "told" or len(rest) != 2 or type(rest[0]) is not tuple:
        return False
    return (all(oracles.is_plain_int(line, 4) for line in rest[0] + rest[1:])
            and list(rest[0]) == sorted(set(rest[0])))


def all_promises(rows, numbers=range(100)):
    """All promises about these rows that fit."""
    lines = {name: rows[name].reads + rows[name].writes for name in rows}
    for name, other in product(sorted(rows), repeat=2):
        if (rows[name].reads, rows[name].writes) == (rows[other].reads, rows[other].writes):
            yield from [("within", name, other), ("alike", name, other)]
    for name in sorted(rows):
        yield ("answered", name)
        yield from [("most", name, number) for number in numbers]
        yield from [("ahead", name, number) for number in range(4)]
        yield from [("told", name, held, line) for held in gaming.subsets(lines[name]) for line in range(lines[name])]


def one_step(rows, known):
    """All promises that come of known ones by one use of one rule of point 14.9."""
    found = set()
    within = [fact[1:] for fact in known if fact[0] == "within"]
    for name in rows:
        found.add(("within", name, name))
        reads, every = rows[name].reads, rows[name].reads + rows[name].writes
        told = {fact[2:] for fact in known if fact[0] == "told" and fact[1] == name}
        for lines in gaming.subsets(every):
            found.update([("told", name, lines, line) for line in lines])
            mine = {line for held, line in told if held == lines}
            found.update([("told", name, lines, line) for held, line in told if set(held) <= mine])
        first = tuple(range(reads))
        if ("most", name, 1) in known:
            found.update([("told", name, first, line) for line in range(reads, every)])
        if all((first, line) in told for line in range(reads, every)):
            found.add(("most", name, 1))
    for fact in known:
        if fact[0] == "alike":
            found.update([("within", fact[1], fact[2]), ("within", fact[2], fact[1])])
        elif fact[0] == "within":
            found.update([("within", fact[1], above) for name, above in within if name == fact[2]])
            if ("within", fact[2], fact[1]) in known:
                found.add(("alike",) + fact[1:])
            if ("answered", fact[1]) in known and ("most", fact[2], 1) in known:
                found.add(("within", fact[2], fact[1]))
        elif fact[0] == "most" and fact[2] < 99:
            found.add(("most", fact[1], fact[2] + 1))
        elif fact[0] == "ahead":
            found.add(("answered", fact[1]))
            if fact[2] < 3:
                found.add(("ahead", fact[1], fact[2] + 1))
        if fact[0] in ("answered", "ahead"):
            found.update([(fact[0], above) + fact[2:] for name, above in within if name == fact[1]])
        elif fact[0] in ("most", "told"):
            found.update([(fact[0], name) + fact[2:] for name, above in within if above == fact[1]])
    return found


def all_that_follows(rows, promises):
    """The set of all promises that follow."""
    known = set(promises)
    while True:
        wider = known | one_step(rows, known)
        if wider == known:
            return known
        known = wider


