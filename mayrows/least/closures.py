"""The sets that show what a plain row has to do with a table: triples [7.6] and quadruples [7.7].

Both kinds of nodes begin with the left state, the state of the table and the right state. A node leads to others
by a letter; the answer letter beside it is that of the table.
"""

from mayrows.base.checks import are_ascending, are_tuples_below
from mayrows.least.sides import met_rights, rights_before


class Nodes:
    """What both kinds of nodes are made of."""

    def __init__(self, passes, table):
        self._passes = passes
        self._rows = table.rows
        self._writes = table.writes
        self._befores = rights_before(passes.rights)


class Triples(Nodes):
    """Which triples follow one another: the table reads what the plain row writes."""

    def bounds(self):
        """How many values each member of a triple can have."""
        return (len(self._passes.lefts), len(self._rows), len(self._passes.rights))

    def first_nodes(self):
        """The triples that are in each closed set from the begin."""
        return [(0, 0, right) for right in met_starts(self._passes)]

    def nodes_after(self, node):
        """A list with (letter, answer letter, triple) for each triple to which this one leads."""
        left, state, right = node
        found = []
        for letter, further in self._befores[right]:
            answer, following = self._passes.lefts[left][letter][further]
            behind = self._rows[state][1][(letter << self._writes) + answer]
            found.append((letter, answer, (following, behind, further)))
        return found

    def is_wrong(self, node):
        """Whether the plain row has come to an answer that is none of the table."""
        return node[2] == 0 and not self._rows[node[1]][0]


class Quadruples(Nodes):
    """Which quadruples follow one another: the mark is 1 where the table's answer is ahead of the plain row's."""

    def bounds(self):
        """How many values each member of a quadruple can have."""
        return (len(self._passes.lefts), len(self._rows), len(self._passes.rights), 2)

    def first_nodes(self):
        """The quadruples that are in each closed set from the begin."""
        return [(0, 0, right, 0) for right in met_starts(self._passes)]

    def nodes_after(self, node):
        """A list with (letter, answer letter, quadruple) for each quadruple to which this one leads."""
        left, state, right, mark = node
        found = []
        for letter, further in self._befores[right]:
            said, following = self._passes.lefts[left][letter][further]
            # An answer that is ahead already may go on as it likes; another one is not behind that of the plain row.
            last = (1 << self._writes) - 1 if mark else said
            for answer in range(last + 1):
                behind = self._rows[state][1][(letter << self._writes) + answer]
                found.append((letter, answer, (following, behind, further, int(mark == 1 or answer < said))))
        return found

    def is_wrong(self, node):
        """Whether an answer of the table is ahead of the one to which the plain row has come."""
        return node[2] == 0 and node[3] == 1 and self._rows[node[1]][0]


def met_starts(passes):
    """The ascending list of the met right states in `starts`."""
    return [right for right in met_rights(passes.rights) if right in passes.starts]


def met_nodes(nodes):
    """What shows that there is a wrong node, and the list of all nodes that are met.

    The former one is the least wide pair (question, answer) that leads to a wrong node, or `None`.
    """
    met = nodes.first_nodes()
    befores = {node: None for node in met}
    at = 0
    while at < len(met):
        node = met[at]
        if nodes.is_wrong(node):
            return _pair_to(befores, node), met
        for letter, answer, following in nodes.nodes_after(node):
            if following not in befores:
                befores[following] = (node, letter, answer)
                met.append(following)
        at += 1
    return None, met


def are_closed(nodes, value, most):
    """Whether the value is an ascending tuple of at most so many nodes, closed, without a wrong one."""
    if not isinstance(value, tuple) or len(value) > most:
        return False
    if not are_tuples_below(value, nodes.bounds()) or not are_ascending(value):
        return False
    known = set(value)
    if not all([node in known for node in nodes.first_nodes()]):
        return False
    for node in value:
        if nodes.is_wrong(node):
            return False
        if not all([following in known for letter, answer, following in nodes.nodes_after(node)]):
            return False
    return True


def _pair_to(befores, node):
    marks = []
    before = befores[node]
    while before is not None:
        marks.append((str(before[1]), str(before[2])))
        before = befores[before[0]]
    return "".join([letter for letter, answer in marks[::-1]]), "".join([answer for letter, answer in marks[::-1]])
