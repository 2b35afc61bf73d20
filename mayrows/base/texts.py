"""Texts, their order, and the lines of which they consist [0.8, 0.9, 1.3]."""

from mayrows.base.checks import check_number, is_number
from mayrows.errors import InvalidNumber, InvalidOperation, InvalidText, TooMany

MAX_WIDTH = 200


def is_text(value, letters):
    """Whether the value is a text whose letters are less than `letters`, which is 2 or 4."""
    _check_letters(letters)
    return isinstance(value, str) and len(value) <= MAX_WIDTH and value.strip("0123"[:letters]) == ""


def texts_of(letters, width):
    """A generator of all texts of this width whose letters are less than `letters`, ascending."""
    _check_letters(letters)
    check_width(width)
    greatest = str(letters - 1)
    text = "0" * width
    while True:
        yield text
        head = text.rstrip(greatest)
        if head == "":
            return
        text = (head[:-1] + str(int(head[-1]) + 1)).ljust(width, "0")


def comes_ahead(one, other):
    """Whether the first text is ahead of the second one [0.9]."""
    check_text(one, 2)
    check_text(other, 2)
    return (len(one), one) < (len(other), other)


def line_of(text, line):
    """The line 0 or 1 of a text of the letters `0` to `3` [1.3]."""
    check_text(text, 2)
    check_number(line, 0, 1)
    digits = "0101" if line == 0 else "0011"
    return "".join([digits[int(letter)] for letter in text])


def text_of_lines(*lines):
    """The text of one or two lines, the line 0 first [1.3]."""
    for line in lines:
        check_text(line, 1)
    if len(lines) == 1:
        return lines[0]
    if len(lines) != 2 or len(lines[0]) != len(lines[1]):
        raise InvalidOperation("a text has one line, or two of one width")
    return "".join([str(int(low) + 2 * int(high)) for low, high in zip(lines[0], lines[1])])


def check_width(width):
    """Raise `InvalidNumber` unless `width` is an integer from 0 to 200."""
    check_number(width, 0, MAX_WIDTH)


def check_text(text, lines):
    """Raise `InvalidText` unless `text` is a text of so many lines."""
    if not is_text(text, 1 << lines):
        raise InvalidText("this is no text of the wanted letters")


def check_returned(text):
    """Raise `TooMany` if a text that is to be returned is too wide."""
    if len(text) > MAX_WIDTH:
        raise TooMany(MAX_WIDTH)


def pair_indices(question, answer, writes):
    """The index of each letter with its answer letter in the rows of a table [3.1], place by place."""
    return [(int(letter) << writes) + int(said) for letter, said in zip(question, answer)]


def _check_letters(letters):
    if not is_number(letters, 2, 2) and not is_number(letters, 4, 4):
        raise InvalidNumber(letters)
