"""The positions of a table that is answered as questions come [11.2].

A position is a pair (state, waiting) of a state of the table and a question text.
"""

from mayrows.base.texts import texts_of
from mayrows.least.answers import answer_at
from mayrows.table.tables import state_behind


class Game:
    """All positions with one number of letters ahead: which of them are good, and what to say and to ask in them."""

    def __init__(self, table, ahead):
        self._table = table
        self._ahead = ahead
        self._openings = question_texts(table, ahead)
        self.spots = [(state, waiting) for state in range(len(table.rows)) for waiting in self._openings]
        self._nexts = {spot: [positions_after(table, spot, str(letter)) for letter in range(1 << table.reads)]
                       for spot in self.spots}
        self._endings = {spot: _least_ending(table, spot) for spot in self.spots}
        # Of the positions that are not good: in how many letters they are lost at most, and what is asked there.
        self._ranks = {spot: 0 for spot in self.spots if self._endings[spot] is None}
        self._askings = {spot: "" for spot in self._ranks}
        self._rank_others()

    def is_won(self):
        """Whether the table can be answered."""
        return self.gap() is None and self.lost_opening() is None

    def gap(self):
        """The least question of fewer than `ahead` letters that has no answer, or `None`."""
        for question in short_questions(self._table, self._ahead):
            if self.short_answer(question) is None:
                return question
        return None

    def short_answer(self, question):
        """The first answer of a question of fewer than `ahead` letters, or `None`."""
        return answer_at(self._table, question, 0)

    def lost_opening(self):
        """The least question text of `ahead` letters that leads to no good position, or `None`."""
        for text in self._openings:
            if not self.is_good((0, text)):
                return text
        return None

    def is_good(self, spot):
        """Whether the position is good."""
        return spot not in self._ranks

    def ending(self, spot):
        """The least answer text with which the position can end, or `None`."""
        return self._endings[spot]

    def reply(self, spot, letter):
        """The least answer letter, as a string, that leads on from a good position to a good one."""
        return str([self.is_good(following) for following in self._nexts[spot][int(letter)]].index(True))

    def replies(self, spot):
        """The text of these answer letters, one for each letter."""
        return "".join([self.reply(spot, str(letter)) for letter in range(len(self._nexts[spot]))])

    def answer(self, question):
        """What is answered to a whole question, if the table can be answered."""
        if len(question) < self._ahead:
            return self.short_answer(question)
        spot = (0, question[:self._ahead])
        said = []
        for letter in question[self._ahead:]:
            said.append(self.reply(spot, letter))
            spot = self.spot_after(spot, letter, said[-1])
        return "".join(said) + self.ending(spot)

    def spot_after(self, spot, letter, said):
        """The position behind this one, if the letter is asked and the answer letter is said."""
        return self._nexts[spot][int(letter)][int(said)]

    def rank(self, spot):
        """The rank of a position that is not good: each one to which `asking` leads from it has a lesser one."""
        return self._ranks[spot]

    def asking(self, spot):
        """The letter that is asked in a position that is not good, as a string; `""` if the question ends there."""
        return self._askings[spot]

    def _rank_others(self):
        many, rank = -1, 0
        while many != len(self._ranks):
            many = len(self._ranks)
            rank += 1
            found = {spot: self._losing_letter(spot) for spot in self.spots if self.is_good(spot)}
            for spot, letter in found.items():
                if letter is not None:
                    self._ranks[spot] = rank
                    self._askings[spot] = letter

    def _losing_letter(self, spot):
        """The first letter, as a string, by which nothing that is said leads to a good position, or `None`."""
        for letter, nexts in enumerate(self._nexts[spot]):
            if not any([self.is_good(following) for following in nexts]):
                return str(letter)
        return None


def can_end(table, spot):
    """Whether the position can end."""
    return _least_ending(table, spot) is not None


def positions_after(table, spot, letter):
    """The positions behind this one if the letter is asked, one for each answer letter."""
    state, waiting = spot
    text = waiting + letter
    first = int(text[0]) << table.writes
    return [(following, text[1:]) for following in table.rows[state][1][first:first + (1 << table.writes)]]


def question_texts(table, width):
    """The list of all question texts of a width, ascending."""
    letters = 1 << table.reads
    return [text for text in texts_of(letters, width)]


def short_questions(table, ahead):
    """The list of all questions of fewer than `ahead` letters, in their order."""
    return [question for width in range(ahead) for question in question_texts(table, width)]


def _least_ending(table, spot):
    state, waiting = spot
    letters, width = 1 << table.writes, len(waiting)
    for answer in texts_of(letters, width):
        if table.rows[state_behind(table.rows, table.writes, waiting, answer, state)][0]:
            return answer
    return None
