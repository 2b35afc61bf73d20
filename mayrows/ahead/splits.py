"""Splits: what two answers of one question come to behind their first unlike letters [10.2].

States are told by their places among the useful ones; a split is a pair of places, the lesser one first.
"""


def begin_splits(moves):
    """The ascending list of the splits that begin."""
    found = [split_of(following, other_following) for row in moves.by_letter for steps in row
             for answer, following in steps for other, other_following in steps if answer < other]
    return sorted(set(found))


def splits_after(moves, split):
    """The ascending list of the splits to which letters lead from a split."""
    found = [split_of(following, other_following) for row in moves.by_letter
             for _, following in row[split[0]] for _, other_following in row[split[1]]]
    return sorted(set(found))


def split_of(place, other):
    """The split of two places, in any order."""
    return (min(place, other), max(place, other))


def open_splits(moves):
    """The list of all open splits."""
    met = begin_splits(moves)
    known = {split: True for split in met}
    at = 0
    while at < len(met):
        nexts = splits_after(moves, met[at])
        for split in nexts:
            if split not in known:
                known[split] = True
                met.append(split)
        at += 1
    return met


def has_two_lasts(moves, split):
    """Whether both states of the split are last ones."""
    return split[0] in moves.last_places and split[1] in moves.last_places


def split_ranks(moves):
    """A dict with the rank of each open split: how many splits can follow one another from it on, itself among them.

    Splits from which others follow without end have no rank.
    """
    nexts = {split: splits_after(moves, split) for split in open_splits(moves)}
    ranks = {}
    many = -1
    while many != len(ranks):
        many = len(ranks)
        for split in nexts:
            if split not in ranks and all([following in ranks for following in nexts[split]]):
                ranks[split] = 1 + max([ranks[following] for following in nexts[split]], default=0)
    return ranks
