"""The commands of a shell, read from their lines [16.1, 16.3]."""

from mayrows.base.texts import MAX_WIDTH, is_text
from mayrows.text.formats import promise_in, row_in
from mayrows.text.terms import term_in
from mayrows.text.words import NOTHING, Words

PLAIN_WORDS = ("lot", "end", "drop", "names", "promises")
DEED_WORDS = ("put", "take", "promise", "back")
TERM_WORDS = ("grow", "look", "least", "keys")
OTHER_WORDS = ("undo", "show", "ask", "count", "is")
MOST_LETTERS = 4


def command_of(line, most_words):
    """The command of a line, in which no term has more than so many words; a line that is none raises `ParseError`.

    It is a tuple of a word and what belongs to it: `"deed"` and a deed of a book; the word between the terms, if it
    is `"is"`, and both terms; and otherwise the first word of the line. Terms are told by their steps.
    """
    words = Words(line)
    word = words.take_one_of(PLAIN_WORDS + DEED_WORDS + TERM_WORDS + OTHER_WORDS)
    command = (word,)
    if word in DEED_WORDS:
        command = ("deed", _deed_in(word, words))
    elif word in TERM_WORDS:
        command = (word, term_in(words, most_words))
    elif word == "undo":
        command = (word, words.take_number(0, MAX_WIDTH))
    elif word == "show":
        command = (word, words.take_name())
    elif word in ("ask", "count"):
        steps = term_in(words, most_words)
        words.take_one_of((":",))
        command = (word, steps, _question_in(words) if word == "ask" else words.take_number(0, MAX_WIDTH))
    elif word == "is":
        steps = term_in(words, most_words)
        sign = words.take_one_of(("=", "<="))
        command = (sign, steps, term_in(words, most_words))
    words.end()
    return command


def _deed_in(word, words):
    """The deed of a book that begins with the word of a command."""
    if word == "put":
        name = words.take_name()
        return ("put", name, row_in(words))
    if word == "take":
        return ("take_out", words.take_name())
    return ("promise" if word == "promise" else "take_back", promise_in(words))


def _question_in(words):
    """The question that is the next word, where `-` stands for the empty one."""
    word = words.take()
    words.check(word == NOTHING or (word != "" and is_text(word, MOST_LETTERS)))
    return "" if word == NOTHING else word
