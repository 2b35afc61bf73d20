"""The right states of plain rows that are met [7.2]."""

from mayrows.base.reach import reached_from


def met_rights(rights):
    """The ascending tuple of the right states of all texts."""
    return tuple(sorted(reached_from(rights, 0)))


def rights_before(rights):
    """For each right state the tuple of pairs (letter, met right state from which the letter leads to it)."""
    found = [[] for _ in rights]
    for right in met_rights(rights):
        for letter, following in enumerate(rights[right]):
            found[following].append((letter, right))
    return tuple([tuple(pairs) for pairs in found])
