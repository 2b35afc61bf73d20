"""The right states of plain rows that are met [7.2]."""


def met_rights(rights):
    """The ascending tuple of the right states of all texts."""
    met = [0]
    known = {0: True}
    at = 0
    while at < len(met):
        nexts = rights[met[at]]
        for following in nexts:
            if following not in known:
                known[following] = True
                met.append(following)
        at += 1
    return tuple(sorted(met))


def rights_before(rights):
    """For each right state the tuple of pairs (letter, met right state from which the letter leads to it)."""
    found = [[] for _ in rights]
    for right in met_rights(rights):
        for letter, following in enumerate(rights[right]):
            found[following].append((letter, right))
    return tuple([tuple(pairs) for pairs in found])
