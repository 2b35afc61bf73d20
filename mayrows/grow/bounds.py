"""What shows that no question has more answers than a power of its width: ranks, heights and numbers [9.5].

States are told by their places among the useful ones. A table that does not double is looked at.
"""

from mayrows.base.masks import members_of
from mayrows.base.reach import reached_from


def heights_of(reached):
    """For each place, how many places are reached from it, itself among them.

    There is no way back along parallel moves, so along them there are fewer.
    """
    return tuple([len(members_of(mask | 1 << place)) for place, mask in enumerate(reached)])


def triples_of(ranks):
    """The ascending list of all triples of places of one rank."""
    places = range(len(ranks))
    return [(one, two, three) for one in places for two in places if ranks[one] == ranks[two]
            for three in places if ranks[one] == ranks[three]]


def triples_after(moves, ranks, triple):
    """The triples of the same rank to which one letter leads from a triple, perhaps several times."""
    rank = ranks[triple[0]]
    found = []
    for row in moves.by_letter:
        columns = [sorted(set([following for _, following in row[place] if ranks[following] == rank]))
                   for place in triple]
        found.extend([(one, two, three) for one in columns[0] for two in columns[1] for three in columns[2]])
    return found


def numbers_of(moves, ranks):
    """A dict with the number of each triple [9.5]: how many triples (p, q, q) of unlike p and q are reached from it.

    What leads from (p, p, q) to such a triple leads there from (p, q, q), too. Only (p, q, q) itself is not reached
    from (p, p, q), since there is no passage between places of one rank.
    """
    befores = _triples_before(moves, ranks)
    numbers = {triple: 0 for triple in triples_of(ranks)}
    for one, two, three in triples_of(ranks):
        if one != two and two == three:
            for triple in reached_from(befores, (one, two, three)):
                numbers[triple] += 1
    return numbers


def _triples_before(moves, ranks):
    """For each triple those from which a letter leads to it."""
    befores = {triple: [] for triple in triples_of(ranks)}
    for triple in triples_of(ranks):
        for following in triples_after(moves, ranks, triple):
            befores[following].append(triple)
    return befores
