"""In which of the three ways a table grows [9.3], with the walks that show it.

States are told by their places among the useful ones.
"""

from mayrows.table.walks import Couples, Walkers, least_walk, reached_places


def doubling_of(moves):
    """A place and the texts of two unlike pairs with one question that lead from it to itself, or `None`."""
    couples = Couples(moves)
    for place in range(len(moves.useful)):
        found = least_walk(couples, (place, place, 0), {(place, place, 1): True})
        if found is not None:
            return place, found[0]
    return None


class Passages:
    """The passages of a table that does not double, with the texts of a loop for each one."""

    def __init__(self, moves):
        self._moves = moves
        self._reached = reached_places(moves)
        many = len(moves.useful)
        self._loops = {}
        for first in range(many):
            for second in range(many):
                loop = self._loop_of(first, second)
                if loop is not None:
                    self._loops[(first, second)] = loop
        self._ranks = self._ranks_of(many)

    def power(self):
        """The greatest number of passages behind one another."""
        return max(self._ranks, default=0)

    def ranks(self):
        """For each place the greatest number of passages behind one another, from the last of which it is reached."""
        return tuple(self._ranks)

    def chain(self):
        """The longest list of passages behind one another: triples (first place, second place, texts of the loop)."""
        found = []
        wanted = self._ranks.index(self.power())
        while self._ranks[wanted]:
            wanted, second = self._passage_ahead(wanted)
            found.append((wanted, second, self._loops[(wanted, second)]))
        return found[::-1]

    def _passage_ahead(self, place):
        """The last passage of the longest ones of which the place is reached."""
        for first, second in self._loops:
            if self._ranks[first] + 1 == self._ranks[place] and self._leads(second, place):
                return first, second
        return None

    def _leads(self, place, other):
        """Whether a pair of one letter or more leads from one place to the other one.

        From each place of a passage such a pair leads to itself, so the pair of empty texts adds nothing.
        """
        return self._reached[place] >> other & 1 == 1

    def _loop_of(self, first, second):
        """The texts with which a passage from the first to the second place is shown, or `None`."""
        if first == second:
            return None
        # Walks go through no other places, so they are found sooner.
        masks = (self._places_between(first, first), self._places_between(first, second),
                 self._places_between(second, second))
        found = least_walk(Walkers(self._moves, masks), (first, first, second), {(first, second, second): True})
        return None if found is None else found[0]

    def _places_between(self, first, second):
        """As a bit mask, the places through which walks from the first to the second place can go."""
        mask = 0
        for place in range(len(self._reached)):
            if self._leads(first, place) and self._leads(place, second):
                mask = mask | 1 << place
        return mask

    def _ranks_of(self, many):
        """For each place how many passages can stand behind one another ahead of it."""
        ranks = [0] * many
        is_new = True
        while is_new:
            is_new = False
            for first, second in self._loops:
                for place in range(many):
                    if self._leads(second, place) and ranks[place] <= ranks[first]:
                        ranks[place] = ranks[first] + 1
                        is_new = True
        return ranks
