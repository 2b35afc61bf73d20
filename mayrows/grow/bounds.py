"""What shows that no question has more answers than a power of its width: ranks, heights and numbers [9.5].

States are told by their places among the useful ones. A table that does not double is looked at.
"""

from mayrows.base.reach import reached_from


def heights_of(moves, reached):
    """For each place, how many places with parallel moves are reached from it."""
    places = range(len(moves.useful))
    marked = [place for place in places if _has_parallel(moves, place)]
    return tuple([len([other for other in marked if other == place or reached[place] >> other & 1])
                  for place in places])


def triples_of(ranks):
    """The ascending list of all triples of places of one rank."""
    places = range(len(ranks))
    return [(one, two, three) for one in places for two in places if ranks[one] == ranks[two]
            for three in places if ranks[one] == ranks[three]]


def triples_after(moves, ranks, triple):
    """The triples of the same rank to which one letter leads from a triple, perhaps several times."""
    rank = ranks[triple[0]]
    found = []
    for row in moves.by_letter:
        columns = [sorted(set([following for _, following in row[place] if ranks[following] == rank]))
                   for place in triple]
        found.extend([(one, two, three) for one in columns[0] for two in columns[1] for three in columns[2]])
    return found


def numbers_of(moves, ranks):
    """A dict with the number of each triple [9.5].

    It is the number of the triples (p, q, q) that are come to from it, where from each of these one may go to
    (p, p, q), too. There is no way back from there, since there is no passage between places of one rank.
    """
    befores = _triples_before(moves, ranks)
    numbers = {triple: 0 for triple in triples_of(ranks)}
    for one, two, three in triples_of(ranks):
        if one != two and two == three:
            for triple in reached_from(befores, (one, two, three)):
                numbers[triple] += 1
    return numbers


def _has_parallel(moves, place):
    """Whether two moves by one letter lead from the place to one place."""
    columns = [[following for _, following in row[place]] for row in moves.by_letter]
    return any([len(set(column)) < len(column) for column in columns])


def _triples_before(moves, ranks):
    """For each triple those that lead to it, by a letter or from (p, q, q) to (p, p, q)."""
    befores = {triple: [] for triple in triples_of(ranks)}
    for triple in triples_of(ranks):
        for following in triples_after(moves, ranks, triple):
            befores[following].append(triple)
        if triple[0] == triple[1] and triple[1] != triple[2]:
            befores[triple].append((triple[0], triple[2], triple[2]))
    return befores
