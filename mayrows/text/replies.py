"""What a shell answers to questions about the tables of a book [16.5]."""

from mayrows.ahead.games import least_look
from mayrows.count.counts import count_answers, count_pairs
from mayrows.grow.growth import growth
from mayrows.least.answers import answers_from
from mayrows.line.lines import keys
from mayrows.table.ends import least_pair
from mayrows.table.within import least_beyond, parting
from mayrows.text.formats import write_promise, write_row
from mayrows.text.terms import names_in, table_by
from mayrows.text.words import NOTHING


def reply_to(command, book, most_shown):
    """The answer to a question; of the answers of a mayrow at most so many are shown."""
    word = command[0]
    if word == "names":
        return " ".join(book.names) or "none"
    if word == "promises":
        return " ; ".join([write_promise(promise) for promise in book.promises]) or "none"
    if word == "show":
        return write_row(book[command[1]])
    if word in ("=", "<="):
        return _reply_to_is(word, _tables_of(command[1:], book))
    tables = _tables_of(command[1:2], book)
    if word == "ask":
        return _reply_to_ask(tables[0], command[2], most_shown)
    if word == "count":
        return str(count_pairs(tables[0], command[2]))
    return _reply_on(word, tables[0])


def _tables_of(terms, book):
    """The list of the tables of some terms; all names are looked up before anything is worked out."""
    for steps in terms:
        for name in names_in(steps):
            book.table_of(name)
    return [table_by(steps, book) for steps in terms]


def _reply_on(word, table):
    """The answer to `grow`, `look`, `least` and `keys`."""
    if word == "grow":
        return " ".join([str(part) for part in growth(table)])
    if word == "look":
        ahead = least_look(table)
        return "none" if ahead is None else str(ahead)
    if word == "least":
        pair = least_pair(table)
        return "none" if pair is None else _pair_words(pair)
    return " ".join([_text_word("".join([str(line) for line in key])) for key in keys(table)])


def _reply_to_is(word, tables):
    pair = parting(tables[0], tables[1]) if word == "=" else least_beyond(tables[0], tables[1])
    return "yes" if pair is None else "no " + _pair_words(pair)


def _reply_to_ask(table, question, most_shown):
    many = count_answers(table, question)
    words = [str(many)]
    for answer in answers_from(table, question):
        if len(words) > most_shown:
            words.append("..")
            break
        words.append(_text_word(answer))
    return " ".join(words)


def _pair_words(pair):
    return " ".join([_text_word(text) for text in pair])


def _text_word(text):
    """The word that stands for a text."""
    return text if text else NOTHING
