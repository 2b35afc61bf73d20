"""Point 11.1: players, who are always right, and askers, whom nobody answers right."""

import unittest
from itertools import product

from mayrows.ahead.games import can_answer
from mayrows.ahead.players import Asker, Player
from mayrows.errors import InvalidNumber, InvalidOperation, InvalidTable, InvalidText, Refused, TooMany
from mayrows.table.calculus import behind, everything, nothing
from mayrows.table.tables import Table
from tests import counting, oracles
from tests.checking import Checked, strangers, wrong_numbers, wrong_tables, wrong_texts
from tests.samples import LATE, late_table, widths_table
from tests.test_games import A, C, F, GAP, L, games, some_tables


def look_of(player):
    """All that can be seen of a player or an asker."""
    seen = [player.table, player.ahead, player.question, player.said, player.is_over, str(player)]
    return seen + ([len(player)] if isinstance(player, Player) else [player.awaited])


def players():
    """A new player for each table and each number of letters ahead with which it can be answered."""
    for table, ahead in games():
        if can_answer(table, ahead):
            yield Player(table, ahead)


def askers():
    """A new asker likewise."""
    for table, ahead in games():
        if not can_answer(table, ahead):
            yield Asker(table, ahead)


class ExamplesTest(Checked):

    def test_examples(self):
        player = Player(L, 1)
        told = [player.ask("0"), player.ask("1"), str(player), player.ask("1"), player.end(), player.question,
                player.said, player("10")]
        self.assertEqual(told, ["", "1", "player with 1 ahead behind 2 letters", "1", "0", "011", "110", "00"])
        with self.assertRaises(Refused) as caught:
            Player(L, 0)
        self.assertEqual(caught.exception.reason, ("lost", 0))
        asker = Asker(~C, 0)
        self.assertEqual([asker.ask(), asker.awaited, asker.hear(""), asker.is_over, ("", "") in ~C],
                         ["", 0, None, True, False])


class PlayerTest(Checked):

    def test_always_right(self):
        many = 0
        for player in players():
            table, ahead = player.table, player.ahead
            for question in counting.questions_to(table, counting.small(table)):
                one = Player(table, ahead)
                said = ""
                for at, letter in enumerate(question):
                    reply = one.ask(letter)
                    said += reply
                    # One letter is said as soon as more than `ahead` letters wait.
                    self.assertEqual(len(said), max(0, at + 1 - ahead))
                    self.assertIn(reply, list("0123"[:2 ** table.writes]) if at + 1 > ahead else [""])
                    self.assertEqual((one.question, one.said, one.is_over), (question[:at + 1], said, False))
                    self.assertEqual(len(one), at + 1 - len(said))
                rest = one.end()
                self.assertEqual((one.question, one.said, one.is_over, len(one)), (question, said + rest, True, 0))
                self.assertTrue(oracles.has_pair(table, question, said + rest))
                self.assertEqual(one.said, self.answer(player, question))
                many += 1
        self.assertGreater(many, 1000)

    def test_at_first(self):
        for player in players():
            self.assertEqual(look_of(player)[2:], ["", "", False, f"player with {player.ahead} ahead behind 0 letters",
                                                   0])

    def test_what_was_said_hangs_on_what_was_asked(self):
        for player in players():
            for question in counting.questions(player.table, 3)[::3]:
                one, other = Player(player.table, player.ahead), Player(player.table, player.ahead)
                self.assertEqual([one.ask(letter) for letter in question], [other.ask(letter) for letter in question])
                self.assertEqual(one.end(), other.end())

    def test_wide_questions(self):
        for table, ahead in ((C, 0), (C, 3), (L, 1), (behind(L, L), 2), (F, 0)):
            player = Player(table, ahead)
            question = "01" * 99 + "11"
            for letter in question:
                player.ask(letter)
            before = look_of(player)
            with self.assertRaises(TooMany) as caught:
                player.ask("0")
            self.assertEqual(caught.exception.most, 200)
            self.assertEqual(look_of(player), before)
            player.end()
            self.assertIn((question, player.said), table)
            self.assertEqual(player(question), player.said)
            self.assertRaisesThis(InvalidText, None, player, question + "0")

    def test_a_call_leaves_the_player_as_it_is(self):
        for player in players():
            player.ask("0")
            before = look_of(player)
            answers = [player(question) for question in counting.questions_to(player.table, 2)]
            self.assertEqual(look_of(player), before)
            player.end()
            self.assertEqual([player(question) for question in counting.questions_to(player.table, 2)], answers)

    def test_twins_go_on_by_themselves(self):
        for player in players():
            for many, ends in product(range(4), (False, True)):
                one = Player(player.table, player.ahead)
                for letter in "1010"[:many]:
                    one.ask(letter)
                if ends:
                    one.end()
                twin, before = one.twin(), look_of(one)
                self.assertEqual((twin == one, one != twin, look_of(twin)), (True, False, before))
                if not ends:
                    twin.ask("1")
                    self.assertEqual((look_of(one), one == twin), (before, False))
                    said = twin.end()
                    one.ask("1")
                    self.assertEqual((one.end(), one == twin), (said, True))

    def test_equality(self):
        one = Player(L, 1)
        self.assertTrue(one == Player(Table.of(LATE), 1) and not one != Player(L, 1))
        for other in (Player(L, 2), Player(C, 1), L, None, "player", 1):
            self.assertTrue(one != other and not one == other)
        one.ask("0")
        other = Player(L, 1)
        self.assertNotEqual(one, other)
        other.ask("1")
        self.assertNotEqual(one, other)
        third = Player(L, 1)
        third.ask("0")
        self.assertEqual(one, third)
        third.end()
        self.assertNotEqual(one, third)
        one.end()
        self.assertEqual(one, third)
        self.assertNotIn(one, strangers())

    def test_refused_calls_change_nothing(self):
        for table, ahead in ((L, 1), (F, 0), (everything(2, 1), 2)):
            player = Player(table, ahead)
            for step in ("1", "0", "1", None):
                before = look_of(player)
                for letter in wrong_texts(2 ** table.reads) + ["", "00", "10", "000"]:
                    self.assertRaisesThis(InvalidText, None, player.ask, letter)
                    if not isinstance(letter, str) or letter not in ("", "00", "10", "000"):
                        self.assertRaisesThis(InvalidText, None, player, letter)
                self.assertEqual(look_of(player), before)
                if step is None:
                    player.end()
                else:
                    player.ask(step)
            before = look_of(player)
            for letter in ("0", "1"):
                self.assertRaisesThis(InvalidOperation, None, player.ask, letter)
            self.assertRaisesThis(InvalidOperation, None, player.end)
            # A wrong letter is told ahead of the end.
            self.assertRaisesThis(InvalidText, None, player.ask, "4")
            self.assertEqual(look_of(player), before)

    def test_no_iteration(self):
        for value in (Player(L, 1), Asker(L, 0)):
            self.assertRaises(TypeError, iter, value)
            for name in ("table", "ahead", "question", "said", "is_over"):
                self.assertRaises(AttributeError, setattr, value, name, None)

    def test_ended_and_full(self):
        player = Player(C, 0)
        for _ in range(200):
            player.ask("0")
        self.assertEqual(player.end(), "")
        # That the question has ended is told ahead of its width.
        self.assertRaisesThis(InvalidOperation, None, player.ask, "0")


class AskerTest(Checked):

    def check_all_answers(self, table, ahead, most):
        """Hear all answers one after another, as far as so many ways to answer go."""
        waiting, ways = [()], 0
        positions = len(table) * 2 ** (table.reads * ahead)
        while waiting and ways < most:
            heard = waiting.pop()
            asker, asked = Asker(table, ahead), ""
            rest = list(heard)
            while not asker.is_over:
                if asker.awaited is None:
                    letter = asker.ask()
                    asked += letter
                    self.assertIn(letter, [""] + list("0123"[:2 ** table.reads]))
                    self.assertEqual(asker.question, asked)
                    self.assertLessEqual(len(asked), positions + ahead)
                    if letter == "":
                        self.assertEqual(asker.awaited, len(asked) - len(asker.said))
                    else:
                        self.assertEqual(asker.awaited, 1 if len(asked) - len(asker.said) > ahead else None)
                    continue
                if not rest:
                    waiting += [heard + (text,) for text in oracles.texts(2 ** table.writes, asker.awaited)]
                    break
                before, said = asker.said, rest.pop(0)
                self.assertIsNone(asker.hear(said))
                self.assertEqual(asker.said, before + said)
            if asker.is_over:
                ways += 1
                self.assertEqual(len(asker.question), len(asker.said))
                self.assertFalse(oracles.has_pair(table, asker.question, asker.said))
                self.assertEqual((asker.awaited, asker.question), (None, asked))
        return ways

    def test_never_right(self):
        ways = sum([self.check_all_answers(asker.table, asker.ahead, 60) for asker in askers()])
        self.assertGreater(ways, 300)

    def test_many_letters(self):
        # Each question has an answer, but its first letter is the last one of the question.
        for ahead in range(4):
            self.assertGreater(self.check_all_answers(A | widths_table((True, False)), ahead, 200), 2)
        for table, ahead in ((behind(L, L), 1), (behind(L, L), 0), (late_table(3) | widths_table([True] * 4 + [False]),
                                                                    2)):
            self.assertGreater(self.check_all_answers(table, ahead, 200), 2)

    def test_at_first(self):
        for asker in askers():
            self.assertEqual(look_of(asker)[2:], ["", "", False, f"asker with {asker.ahead} ahead behind 0 letters",
                                                  None])

    def test_refused_calls_change_nothing(self):
        many = 0
        for asker in askers():
            letters = 2 ** asker.table.writes
            while True:
                before = look_of(asker)
                for said in wrong_texts(letters):
                    self.assertRaisesThis(InvalidText, None, asker.hear, said)
                awaited = asker.awaited
                for width in range(4):
                    if width != awaited:
                        self.assertRaisesThis(InvalidOperation, None, asker.hear, "0" * width)
                if awaited is not None or asker.is_over:
                    self.assertRaisesThis(InvalidOperation, None, asker.ask)
                self.assertEqual(look_of(asker), before)
                many += 1
                if asker.is_over:
                    break
                if awaited is None:
                    asker.ask()
                else:
                    asker.hear("1" * awaited)
            if many > 60:
                break

    def test_questions_that_end_at_once(self):
        for ahead in range(4):
            asker = Asker(nothing(1, 1), ahead)
            self.assertEqual((asker.ask(), asker.awaited), ("", 0))
            asker.hear("")
            self.assertEqual((asker.question, asker.said, asker.is_over), ("", "", True))
        asker = Asker(GAP, 3)
        self.assertEqual([asker.ask(), asker.ask(), asker.awaited], ["0", "", 1])
        self.assertEqual(str(asker), "asker with 3 ahead behind 1 letters")
        asker.hear("1")
        self.assertEqual((asker.question, asker.said), ("0", "1"))

    def test_asked_from_the_left(self):
        asker = Asker(L, 0)
        self.assertEqual([asker.ask(), asker.awaited], ["0", 1])
        asker.hear("0")
        letter = asker.ask()
        self.assertEqual(letter, "1")
        asker.hear("0")
        self.assertEqual(asker.ask(), "")
        self.assertEqual((asker.awaited, asker.is_over), (0, False))
        asker.hear("")
        self.assertEqual((asker.question, asker.said, asker.is_over), ("01", "00", True))


class WrongTest(Checked):

    def test_wrong_arguments(self):
        for owner, table, ahead in ((Player, L, 1), (Asker, L, 0)):
            self.check_wrong(owner, (table, ahead), (InvalidTable, wrong_tables()),
                             (InvalidNumber, wrong_numbers(0, 3)))

    def test_refused(self):
        for table in some_tables():
            for ahead in range(4):
                if len(table) * 2 ** (table.reads * ahead) > 192:
                    self.assertTooMany(192, Player, table, ahead)
                    self.assertTooMany(192, Asker, table, ahead)
                    continue
                word, owner = ("won", Asker) if can_answer(table, ahead) else ("lost", Player)
                with self.assertRaises(Refused) as caught:
                    owner(table, ahead)
                self.assertEqual(caught.exception.reason, (word, ahead))


if __name__ == "__main__":
    unittest.main()
