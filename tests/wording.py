"""Stage 15 worked out as plainly as can be: where the first wrong word of a text begins."""

import re

from tests import promising


def is_number(word, low, high):
    """Whether the word is a number of this range."""
    return re.fullmatch("0|[1-9][0-9]{0,5}", word) is not None and low <= int(word) <= high


def is_list(word, many, below):
    """Whether the word is a list of so many numbers below a bound."""
    parts = word.split(",")
    return len(parts) == many and all(is_number(part, 0, below - 1) for part in parts)


def are_rising_digits(word, below):
    """Whether the word has ascending digits below a bound, or is `-`."""
    return word == "-" or (re.fullmatch("[0-9]+", word) is not None and list(word) == sorted(set(word))
                           and int(word[-1]) < below)


def row_word(words, word):
    """Whether the word may stand behind these ones in the text of a row."""
    at = len(words)
    if at == 0:
        return word == "row"
    if at < 4:
        return is_number(word, 1, 6 if at == 3 else 2)
    reads, writes, states = [int(one) for one in words[1:4]]
    if at == 4:
        return are_rising_digits(word, states)
    bounds = (states, 2 ** reads, 2 ** writes, states)
    if re.fullmatch("[0-9]{4}", word) is None or not all(int(mark) < bound for mark, bound in zip(word, bounds)):
        return False
    return at == 5 or word > words[-1]


def row_length(words):
    """How many words are wanted at least, and at most, behind these ones at the begin."""
    return 5, 10 ** 6


def table_word(words, word):
    """Whether the word may stand behind these ones in the text of a table."""
    at = len(words)
    if at == 0:
        return word == "table"
    if at < 4:
        return is_number(word, 1, 60 if at == 3 else 2)
    reads, writes, many = [int(one) for one in words[1:4]]
    return at < 4 + many and word[:1] in ("+", "-") and is_list(word[1:], 2 ** (reads + writes), many)


def table_length(words):
    """Likewise."""
    many = 4 + int(words[3]) if len(words) > 3 else 4
    return many, many


def passes_word(words, word):
    """Whether the word may stand behind these ones in the text of a plain row."""
    at = len(words)
    if at == 0:
        return word == "passes"
    if at < 5:
        return is_number(word, 1, 60 if at > 2 else 2)
    reads, writes, rights, lefts = [int(one) for one in words[1:5]]
    if at == 5:
        return word == "-" or (is_list(word, word.count(",") + 1, rights)
                               and all(int(one) < int(other) for one, other in zip(word.split(","),
                                                                                   word.split(",")[1:])))
    if at < 6 + rights:
        return is_list(word, 2 ** reads, rights)
    parts = [part.split(":") for part in word.split(",")]
    return (at < 6 + rights + lefts and len(parts) == 2 ** reads * rights
            and all(len(part) == 2 and is_number(part[0], 0, 2 ** writes - 1) and is_number(part[1], 0, lefts - 1)
                    for part in parts))


def passes_length(words):
    """Likewise."""
    many = 6 + int(words[3]) + int(words[4]) if len(words) > 4 else 6
    return many, many


def promise_word(words, word):
    """Whether the word may stand behind these ones in the text of a promise."""
    at = len(words)
    if at == 0:
        return word in promising.WORDS
    if at == 1:
        return promising.is_name(word)
    kind = words[0]
    if kind in ("within", "alike"):
        return at == 2 and promising.is_name(word)
    if kind in ("most", "ahead"):
        return at == 2 and is_number(word, 0, 99 if kind == "most" else 3)
    if kind == "told":
        return are_rising_digits(word, 4) if at == 2 else at == 3 and is_number(word, 0, 3)
    return False


def promise_length(words):
    """Likewise."""
    many = {"answered": 2, "told": 4}.get(words[0], 3)
    return many, many


SORTS = {"row": (row_word, row_length), "table": (table_word, table_length), "passes": (passes_word, passes_length),
         "promise": (promise_word, promise_length)}


def words_spot(sort, words, begin):
    """Where the first wrong word begins, or where the line ends too soon, or `None`; `begin` is where they begin."""
    may_stand, length = SORTS[sort]
    spot = begin
    for at, word in enumerate(words):
        if not may_stand(words[:at], word):
            return spot
        spot += len(word) + 1
    return spot - 1 if len(words) < length(words)[0] else None


def wrong_spot(sort, text):
    """The same for a text of one of the four sorts that have one line."""
    return words_spot(sort, text.split(" "), 0)


def book_spot(text):
    """The same for the text of a book."""
    begin, names, promises = 0, [], []
    for line in text.split("\n") if text else []:
        words = line.split(" ")
        behind = begin + len(words[0]) + 1
        if words[0] == "put":
            if promises or len(names) == 12:
                return begin
            if len(words) == 1:
                return behind - 1
            if not promising.is_name(words[1]) or (names and words[1] <= names[-1]):
                return behind
            names.append(words[1])
            rest = behind + len(words[1]) + 1
            found = words_spot("row", words[2:], rest) if len(words) > 2 else rest - 1
        elif words[0] == "promise":
            if len(promises) == 16:
                return begin
            found = words_spot("promise", words[1:], behind) if len(words) > 1 else behind - 1
            if found is None and words[1:] in promises:
                return behind
            promises.append(words[1:])
        else:
            return begin
        if found is not None:
            return found
        begin += len(line) + 1
    return None


def spoilt_texts(text, marks="0123469-+,: abz\n\tA"):
    """The text cut at each place, with one character more, less, or another one, and with words changed."""
    for at in range(len(text) + 1):
        yield text[:at]
        yield text[:at] + text[at + 1:]
        for mark in marks:
            yield text[:at] + mark + text[at:]
            yield text[:at] + mark + text[at + 1:]
    words = text.split(" ")
    for at in range(len(words)):
        for word in ("", "00", "10", "-", "+", "row", "put", "7", "200", "1" * 400, words[at] + words[at],
                     words[at - 1]):
            yield " ".join(words[:at] + [word] + words[at + 1:])
            yield " ".join(words[:at] + [word] + words[at:])
        yield " ".join(words[:at] + words[at + 1:])
        yield " ".join(words[:at] + words[at + 1:at + 2] + words[at:at + 1] + words[at + 2:])
