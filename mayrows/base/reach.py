"""What is reached step by step, in the order in which it is met."""

from mayrows.errors import TooMany


class Numbers:
    """Nodes that are numbered as they are met; more than `most` of them, if this is not `None`, raise `TooMany`."""

    def __init__(self, first, most):
        self.met = [first]
        self._known = {first: 0}
        self._most = most

    def number_of(self, node):
        """The number of the node, which is met now if it was not met before."""
        if node not in self._known:
            if len(self.met) == self._most:
                raise TooMany(self._most)
            self._known[node] = len(self.met)
            self.met.append(node)
        return self._known[node]


def reached_from(nexts, start):
    """All nodes that are reached from one of them; `nexts` has, for each node, those to which it leads."""
    met = [start]
    known = {start: True}
    at = 0
    while at < len(met):
        followers = nexts[met[at]]
        for following in followers:
            if following not in known:
                known[following] = True
                met.append(following)
        at += 1
    return met
