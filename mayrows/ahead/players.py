"""Somebody who answers as questions come, and somebody who asks so that nobody is right [11.1]."""

from mayrows.ahead.games import game_of
from mayrows.base.texts import MAX_WIDTH, check_text
from mayrows.errors import InvalidOperation, InvalidText, Refused, TooMany


class Player:
    """Somebody who answers, and is always right."""

    def __init__(self, table, ahead):
        self._game = game_of(table, ahead)
        if not self._game.is_won():
            raise Refused(("lost", ahead))
        self._table = table
        self._ahead = ahead
        self._question = ""
        self._said = ""
        # The state behind what was said, and the letters that wait.
        self._state = 0
        self._waiting = ""
        self._is_over = False

    @property
    def table(self):
        """Its table."""
        return self._table

    @property
    def ahead(self):
        """How many more letters it sees than have been answered."""
        return self._ahead

    @property
    def question(self):
        """The text that was asked so far."""
        return self._question

    @property
    def said(self):
        """The text that was said so far."""
        return self._said

    @property
    def is_over(self):
        """Whether the question has ended."""
        return self._is_over

    def ask(self, letter):
        """Ask one more letter; it returns the answer letter that is said then, or `""`."""
        check_text(letter, self._table.reads)
        if len(letter) != 1:
            raise InvalidText("this is no question of one letter")
        if self._is_over:
            raise InvalidOperation("the question has ended")
        if len(self._question) == MAX_WIDTH:
            raise TooMany(MAX_WIDTH)
        self._question = self._question + letter
        if len(self._waiting) < self._ahead:
            self._waiting = self._waiting + letter
            return ""
        spot = (self._state, self._waiting)
        reply = self._game.reply(spot, letter)
        self._state, self._waiting = self._game.spot_after(spot, letter, reply)
        self._said = self._said + reply
        return reply

    def end(self):
        """End the question; it returns the text of the answer letters that are left."""
        if self._is_over:
            raise InvalidOperation("the question has ended")
        if len(self._waiting) < self._ahead:
            rest = self._game.short_answer(self._question)
        else:
            rest = self._game.ending((self._state, self._waiting))
        self._said = self._said + rest
        self._waiting = ""
        self._is_over = True
        return rest

    def twin(self):
        """An equal player that goes on by itself."""
        twin = Player(self._table, self._ahead)
        twin._question = self._question
        twin._said = self._said
        twin._state = self._state
        twin._waiting = self._waiting
        twin._is_over = self._is_over
        return twin

    def __call__(self, question):
        check_text(question, self._table.reads)
        return self._game.answer(question)

    def __len__(self):
        return len(self._waiting)

    def __eq__(self, other):
        return (isinstance(other, Player) and self._table == other._table and self._ahead == other._ahead
                and self._question == other._question and self._is_over == other._is_over)

    def __str__(self):
        return f"player with {self._ahead} ahead behind {len(self._question)} letters"


class Asker:
    """Somebody who asks, and whom nobody answers right."""

    def __init__(self, table, ahead):
        self._game = game_of(table, ahead)
        if self._game.is_won():
            raise Refused(("won", ahead))
        gap = self._game.gap()
        # What is asked first, whatever is heard.
        self._opening = self._game.lost_opening() if gap is None else gap
        self._table = table
        self._ahead = ahead
        self._question = ""
        self._said = ""
        self._state = 0
        self._waiting = ""
        self._is_ended = False
        self._is_over = False

    @property
    def table(self):
        """Its table."""
        return self._table

    @property
    def ahead(self):
        """How many more letters are seen than have been answered."""
        return self._ahead

    @property
    def question(self):
        """The text that was asked so far."""
        return self._question

    @property
    def said(self):
        """The text that was heard so far."""
        return self._said

    @property
    def awaited(self):
        """The width of the answer that is awaited, or `None`."""
        if self._is_over:
            return None
        if self._is_ended:
            return len(self._waiting)
        return 1 if len(self._waiting) > self._ahead else None

    @property
    def is_over(self):
        """Whether the question has ended, and its last answer was heard."""
        return self._is_over

    def ask(self):
        """Ask one more letter, and return it; or end the question, and return `""`."""
        if self._is_over or self.awaited is not None:
            raise InvalidOperation("an answer is awaited, or all is over")
        letter = self._next_letter()
        self._question = self._question + letter
        self._waiting = self._waiting + letter
        self._is_ended = letter == ""
        return letter

    def hear(self, said):
        """Hear the answer that is awaited."""
        check_text(said, self._table.writes)
        if self.awaited is None or len(said) != self.awaited:
            raise InvalidOperation("no answer is awaited, or one of another width")
        self._said = self._said + said
        if self._is_ended:
            self._waiting = ""
            self._is_over = True
        else:
            spot = (self._state, self._waiting[:-1])
            self._state, self._waiting = self._game.spot_after(spot, self._waiting[-1], said)

    def __str__(self):
        return f"asker with {self._ahead} ahead behind {len(self._question)} letters"

    def _next_letter(self):
        if len(self._question) < len(self._opening):
            return self._opening[len(self._question)]
        if len(self._opening) < self._ahead:
            return ""
        return self._game.asking((self._state, self._waiting))
