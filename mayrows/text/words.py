"""The words of a line, read from the left [15.1, 15.7]."""

from mayrows.base.checks import are_ascending
from mayrows.book.promises import is_name
from mayrows.errors import ParseError

DIGITS = "0123456789"
# What stands for none of something.
NOTHING = "-"


class Words:
    """The words of a line, which begins at the index `start` of the whole text.

    What takes the next word raises `ParseError` with its index if it is wrong, or where the line ends without it.
    """

    def __init__(self, line, start=0):
        self._words = line.split(" ")
        self._many_taken = 0
        # Where the last word that was taken begins, and where the next one does.
        self._last_begin = start
        self._next_begin = start

    def next_word(self):
        """The next word, which is not taken, or `None`."""
        return self._words[self._many_taken] if self._many_taken < len(self._words) else None

    def next_begin(self):
        """Where the next word begins."""
        return self._next_begin

    def take(self):
        """Take any word."""
        word = self.next_word()
        if word is None:
            # No blank stands behind the last word.
            raise ParseError(self._next_begin - 1)
        self._many_taken += 1
        self._last_begin = self._next_begin
        self._next_begin = self._last_begin + len(word) + 1
        return word

    def check(self, is_right):
        """Refuse the last word that was taken unless it is right."""
        if not is_right:
            raise ParseError(self._last_begin)

    def end(self):
        """Refuse the next word, if there is one."""
        if self.next_word() is not None:
            raise ParseError(self._next_begin)

    def take_one_of(self, known):
        """Take one of these words."""
        word = self.take()
        self.check(word in known)
        return word

    def take_name(self):
        """Take a name."""
        word = self.take()
        self.check(is_name(word))
        return word

    def take_number(self, low, high):
        """Take a number from `low` to `high`."""
        number = number_of(self.take(), high + 1)
        self.check(number is not None and number >= low)
        return number

    def take_digits(self, bounds):
        """Take a word with a digit below each bound."""
        word = self.take()
        self.check(len(word) == len(bounds))
        digits = tuple([number_of(mark, bound) for mark, bound in zip(word, bounds)])
        self.check(None not in digits)
        return digits

    def take_rising_digits(self, bound):
        """Take a word of ascending digits below the bound, or `-`."""
        word = self.take()
        numbers = [] if word == NOTHING else [number_of(mark, bound) for mark in word]
        self._check_rising(numbers, word)
        return tuple(numbers)

    def take_rising_list(self, bound):
        """Take a list of ascending numbers below the bound, or `-`."""
        word = self.take()
        numbers = [] if word == NOTHING else numbers_of(word, bound)
        self._check_rising(numbers, word)
        return tuple(numbers)

    def take_list(self, many, bound):
        """Take a list of so many numbers below the bound."""
        return self.check_list(self.take(), many, bound)

    def check_list(self, part, many, bound):
        """The list that is told by a part of the last word, which is refused if it is none as above."""
        numbers = numbers_of(part, bound)
        self.check(len(numbers) == many and None not in numbers)
        return tuple(numbers)

    def take_pairs(self, many, bound, other_bound):
        """Take a list of so many pairs of numbers with a colon between them, each below its bound."""
        parts = [part.partition(":") for part in self.take().split(",")]
        self.check(len(parts) == many)
        pairs = [(number_of(one, bound), number_of(other, other_bound)) for one, _, other in parts]
        self.check(all([None not in pair for pair in pairs]))
        return tuple(pairs)

    def _check_rising(self, numbers, word):
        self.check(word != "" and None not in numbers and are_ascending(numbers))


def number_of(word, bound):
    """The number that is written as this word, or `None` if there is none below the bound."""
    # A long word is none of the numbers here, and need not be worked out.
    if word == "" or len(word) > 3 or word.strip(DIGITS) != "" or (word[0] == "0" and word != "0"):
        return None
    number = int(word)
    return number if number < bound else None


def numbers_of(word, bound):
    """What `number_of` tells of each part of a list."""
    return [number_of(part, bound) for part in word.split(",")]
