"""Stage 16 worked out as plainly as can be: where the first wrong word of a line begins, and what terms tell."""

from mayrows.table.calculus import behind, turned
from tests import promising, wording

SIGNS = ("|", "&", "-", ">")


class Wrong(Exception):
    """A line is no command; `spot` tells where."""

    def __init__(self, spot):
        super().__init__(spot)
        self.spot = spot


class Line:
    """The words of a line with their places."""

    def __init__(self, line):
        self.line, self.words, spot = line, [], 0
        for word in line.split(" "):
            self.words.append((spot, word))
            spot += len(word) + 1

    def next(self):
        """The next word, or `None`."""
        return self.words[0][1] if self.words else None

    def take(self, is_right):
        """Take the next word, if it is right."""
        if not self.words:
            raise Wrong(len(self.line))
        spot, word = self.words.pop(0)
        if not is_right(word):
            raise Wrong(spot)
        return word


def take_term(line, left):
    """Take a term as nested tuples; `left` is a list with the number of words that it may have yet."""
    found = take_part(line, left)
    while line.next() in SIGNS:
        sign = take_word(line, left, lambda word: True)
        found = (sign, found, take_part(line, left))
    return found


def take_word(line, left, is_right):
    """Take a word of a term."""
    left[0] -= 1
    return line.take(lambda word: left[0] >= 0 and is_right(word))


def take_part(line, left):
    """Take a part of a term."""
    word = take_word(line, left, lambda one: promising.is_name(one) or one in ("~", "^", "("))
    if word == "(":
        found = take_term(line, left)
        take_word(line, left, lambda one: one == ")")
        return found
    return (word, take_part(line, left)) if word in ("~", "^") else word


def wrong_spot(text):
    """Where the first wrong word of a line begins, or where more words are lacking, or `None` for a command."""
    line = Line(text)
    try:
        word = line.take(lambda one: one in ("put", "take", "promise", "back", "lot", "end", "drop", "undo", "names",
                                             "promises", "show", "grow", "look", "least", "keys", "ask", "count", "is"))
        if word in ("put", "take", "show"):
            line.take(promising.is_name)
        if word == "undo":
            line.take(lambda one: wording.is_number(one, 0, 200))
        if word in ("put", "promise", "back"):
            words, line.words = line.words, []
            if not words:
                raise Wrong(len(text))
            return wording.words_spot("row" if word == "put" else "promise", [one for _, one in words], words[0][0])
        if word in ("grow", "look", "least", "keys", "ask", "count", "is"):
            take_term(line, [40])
        if word in ("ask", "count"):
            line.take(lambda one: one == ":")
            line.take(is_question if word == "ask" else lambda one: wording.is_number(one, 0, 200))
        if word == "is":
            line.take(lambda one: one in ("=", "<="))
            take_term(line, [40])
        if line.words:
            raise Wrong(line.words[0][0])
    except Wrong as wrong:
        return wrong.spot
    return None


def is_question(word):
    """Whether the word is a question of a command."""
    return word == "-" or (1 <= len(word) <= 200 and set(word) <= set("0123"))


def table_of(term, tables):
    """The table of a term as nested tuples."""
    if isinstance(term, str):
        return tables[term]
    parts = [table_of(part, tables) for part in term[1:]]
    if len(parts) == 1:
        return ~parts[0] if term[0] == "~" else turned(parts[0])
    one, other = parts
    return {"|": lambda: one | other, "&": lambda: one & other, "-": lambda: one - other,
            ">": lambda: behind(one, other)}[term[0]]()


def term_of(text):
    """The nested tuples of a term."""
    return take_term(Line(text), [40])
