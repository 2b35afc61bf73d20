"""What follows from promises by the rules of point 14.9.

Names are told by their places among the ascending names; sets of names and sets of lines are bit masks.
"""

from mayrows.base.checks import MOST_AHEAD
from mayrows.base.masks import mask_of, members_of, union_over
from mayrows.book.promises import MOST_ANSWERS


class Traits:
    """What is known of one name."""

    def __init__(self, row, place):
        lines = row.reads + row.writes
        self.read_lines = (1 << row.reads) - 1
        self.written_lines = (1 << lines) - (1 << row.reads)
        # The names within which it is.
        self.above = 1 << place
        self.is_sure = False
        # The least known numbers, or more than the greatest one that there is.
        self.fewest = MOST_ANSWERS + 1
        self.nearest = MOST_AHEAD + 1
        # For each set of lines those that it tells.
        self.by_lines = list(range(1 << lines))

    def size(self):
        """What differs as soon as more is known."""
        return (self.above, self.is_sure, self.fewest, self.nearest, tuple(self.by_lines))

    def learn_lines(self, lines, more):
        """Learn that a set of lines tells these lines, too."""
        self.by_lines[lines] = self.by_lines[lines] | more

    def learn_alone(self):
        """Learn what follows without the other names."""
        self.is_sure = self.is_sure or self.nearest <= MOST_AHEAD
        if self.fewest <= 1:
            self.learn_lines(self.read_lines, self.written_lines)
        self.by_lines = [_closed(lines, self.by_lines) for lines in self.by_lines]
        if self.written_lines & ~self.by_lines[self.read_lines] == 0:
            self.fewest = min(self.fewest, 1)

    def learn_from(self, other):
        """Learn what holds since this name is within the other one."""
        self.fewest = min(self.fewest, other.fewest)
        self.by_lines = [lines | more for lines, more in zip(self.by_lines, other.by_lines)]


def does_follow(promise, rows, promises):
    """Whether a promise follows from others; all of them fit the rows, which have ascending names."""
    names = list(rows)
    known = _known_traits(rows, promises)
    place = names.index(promise[1])
    traits = known[place]
    if promise[0] == "answered":
        return traits.is_sure
    if promise[0] == "most":
        return traits.fewest <= promise[2]
    if promise[0] == "ahead":
        return traits.nearest <= promise[2]
    if promise[0] == "told":
        return traits.by_lines[mask_of(promise[2])] >> promise[3] & 1 == 1
    other = names.index(promise[2])
    is_below = traits.above >> other & 1 == 1
    return is_below and (promise[0] == "within" or known[other].above >> place & 1 == 1)


def _known_traits(rows, promises):
    """The list of all that is known of each name."""
    names = list(rows)
    known = [Traits(rows[name], place) for place, name in enumerate(names)]
    for promise in promises:
        _learn(names, known, promise)
    before = []
    sizes = [traits.size() for traits in known]
    while sizes != before:
        before = sizes
        for place, traits in enumerate(known):
            traits.learn_alone()
            traits.above = union_over([other.above for other in known], traits.above)
            _learn_between(known, place)
        sizes = [traits.size() for traits in known]
    return known


def _learn(names, known, promise):
    """Learn what a promise tells."""
    place = names.index(promise[1])
    traits = known[place]
    if promise[0] == "answered":
        traits.is_sure = True
    elif promise[0] == "most":
        traits.fewest = min(traits.fewest, promise[2])
    elif promise[0] == "ahead":
        traits.nearest = min(traits.nearest, promise[2])
    elif promise[0] == "told":
        traits.learn_lines(mask_of(promise[2]), 1 << promise[3])
    else:
        other_place = names.index(promise[2])
        other = known[other_place]
        traits.above = traits.above | 1 << other_place
        if promise[0] == "alike":
            other.above = other.above | 1 << place


def _learn_between(known, place):
    """Learn what follows for a name and all those within which it is."""
    traits = known[place]
    others = [known[above] for above in members_of(traits.above)]
    for other in others:
        traits.learn_from(other)
        other.nearest = min(other.nearest, traits.nearest)
        other.is_sure = other.is_sure or traits.is_sure
        if traits.is_sure and other.fewest <= 1:
            other.above = other.above | 1 << place


def _closed(lines, by_lines):
    """All that a set of lines tells by sets that it holds."""
    for fewer, more in enumerate(by_lines):
        if fewer & ~lines == 0:
            lines = lines | more
    return lines
