"""Points 9.1 to 9.4 and 0.13: how the number of answers grows."""

import random
from itertools import product

from mayrows.errors import InvalidNumber, InvalidTable, TooMany
from mayrows.grow import growth as module
from mayrows.grow.growth import greatest, growth, most_answers
from mayrows.row.rows import Mayrow
from mayrows.table.calculus import behind, everything, letterwise, nothing, turned
from mayrows.table.tables import Table
from tests import counting, growing, oracles
from tests.checking import Checked, wrong_numbers, wrong_tables
from tests.samples import (COPY, FAR, FREE, HALF, LATE, ODD, ONCE, beats_table, chain_table, counters_table,
                           letters_table, moves_table, ones_table, parts_table, random_table, round_table, spread_table,
                           widths_table)

C, F, O, L = Table.of(COPY), Table.of(FREE), Table.of(ONCE), Table.of(LATE)


def scattered_table(seed):
    """A table whose moves mostly lead to greater states, so that it often does not double."""
    chance = random.Random(seed)
    states, reads, writes = chance.randint(2, 5), chance.randint(1, 2), chance.randint(1, 2)
    moves = [(state, letter, answer, chance.randint(state if chance.random() < 0.8 else 0, states - 1))
             for state, letter, answer in product(range(states), range(2 ** reads), range(2 ** writes))
             if chance.random() < 1 / 2 ** writes]
    return moves_table(reads, writes, [chance.random() < 0.5 for _ in range(states)], moves)


def known_tables():
    """Tables that grow in a told way, each with this way."""
    yield from [(C, ("most", 1)), (F, ("doubling",)), (O, ("power", 1)), (L, ("most", 1)), (C | L, ("most", 2)),
                (Table.of(HALF), ("most", 1)), (Table.of(ODD), ("most", 1)), (Table.of(FAR), ("most", 1))]
    for reads, writes in product((1, 2), repeat=2):
        yield from [(nothing(reads, writes), ("most", 0)), (everything(reads, writes), ("doubling",)),
                    (letterwise(reads, writes, ((0, 1),)), ("most", 1))]
    for power in range(1, 12):
        yield ones_table(power), ("power", power)
    for rings in ((1, 1), (2, 1), (1, 2), (2, 3), (3, 2), (4, 5), (5, 6), (7, 4), (1, 11)):
        yield chain_table(rings), ("power", 1)
    for rings in ((1, 1, 1), (2, 3, 4), (3, 2, 1), (4, 4, 4), (2, 5, 3), (3, 3, 3)):
        yield chain_table(rings), ("power", 2)
    for rings in ((1, 1, 1, 1), (2, 1, 2, 1), (2, 2, 3, 2), (3, 3, 3, 3), (1, 2, 3, 4)):
        yield chain_table(rings), ("power", 3)
    # The two answers of a round lead through unlike states, or through one state by parallel moves.
    apart = [(0, letter, answer, 1 + answer) for letter, answer in product((0, 1), repeat=2)]
    apart += [(1 + answer, letter, answer, 0) for letter, answer in product((0, 1), repeat=2)]
    yield moves_table(1, 1, [True, False, False], apart), ("doubling",)
    beside = [(0, 0, answer, 1) for answer in (0, 1)] + [(1, 1, 0, 2), (2, 0, 0, 0)]
    yield moves_table(1, 1, [True, False, False], beside), ("doubling",)
    # The same, but there is no way back.
    yield moves_table(1, 1, [True, False, True], beside[:3]), ("most", 2)
    yield moves_table(1, 2, [False, True], [(0, 0, 0, 0)] + [(0, 1, answer, 1) for answer in range(4)]), ("most", 4)
    # Both rings go on by unlike letters, so no question leads round in both of them.
    unlike = [(0, 0, 0, 0), (0, 1, 1, 1), (0, 0, 1, 1), (1, 1, 0, 1)]
    yield moves_table(1, 1, [False, True], unlike), ("most", 2)
    # Two passages side by side, one of which has another one behind it.
    side = [(0, 0, 0, 1), (0, 1, 0, 4), (1, 0, 0, 1), (1, 0, 1, 2), (2, 0, 0, 2), (2, 0, 1, 3), (3, 0, 0, 3),
            (4, 0, 0, 4), (4, 0, 1, 5), (5, 0, 0, 5), (5, 0, 1, 6)]
    yield moves_table(1, 1, [False, False, True, True, False, True, True], side), ("power", 2)
    # The same, but what stands beside has the lesser states.
    other_side = [(0, 1 - letter, answer, following) for state, letter, answer, following in side[:2]] + side[2:]
    yield moves_table(1, 1, [False, False, True, True, False, True, True], other_side), ("power", 2)


def some_tables():
    """Tables of all kinds."""
    for seed in range(60):
        yield random_table(seed, 1 + seed % 2, 1 + seed // 2 % 2, 2 + seed % 3)
    for seed in range(150):
        yield scattered_table(seed)


class ExamplesTest(Checked):

    def test_growth(self):
        self.assertEqual([growth(C), growth(F), growth(O), growth(L), growth(C | L), growth(behind(O, O)),
                          most_answers(L), most_answers(O)],
                         [("most", 1), ("doubling",), ("power", 1), ("most", 1), ("most", 2), ("power", 1), 1, None])

    def test_greatest(self):
        self.assertEqual([greatest(O, 4), greatest(F, 3), greatest(C | L, 2), greatest(O, 0)],
                         [(5, "1111"), (8, "111"), (2, "01"), (1, "")])

    def test_constant(self):
        self.assertEqual(module.MAX_GROWN, 12)


class GrowthTest(Checked):

    def test_tables_that_grow_in_a_told_way(self):
        for table, expected in known_tables():
            self.assertEqual(self.answer(growth, table), expected)
            self.assertEqual(self.answer(most_answers, table), expected[1] if expected[0] == "most" else None)
            self.assertIs(type(growth(table)[-1]), str if expected[0] == "doubling" else int)

    def test_it_is_as_all_questions_tell(self):
        ways = set()
        for table in some_tables():
            found = self.answer(growth, table)
            ways.add(found)
            self.assertEqual(found, growing.growth(table))
        self.assertTrue(ways >= {("most", 0), ("most", 1), ("most", 2), ("power", 1), ("power", 2), ("doubling",)})

    def test_it_agrees_with_the_numbers_of_small_widths(self):
        for table, way in list(known_tables()) + [(table, growth(table)) for table in some_tables()]:
            most = [max([len(counting.answers(table, question)) for question in counting.questions(table, width)])
                    for width in range(counting.small(table) + 1)]
            if way[0] == "most":
                self.assertLessEqual(max(most), way[1])
            for width, many in enumerate(most):
                self.assertEqual(greatest(table, width)[0], many)

    def test_it_agrees_with_the_numbers_of_great_widths(self):
        for table, way in known_tables():
            if way[0] == "doubling":
                # A round is at most as wide as there are couples of states.
                self.assertGreaterEqual(max([greatest(table, width)[0] for width in (29, 30)]), 2 ** 9)
            elif way[0] == "power" and way[1] <= 3:
                # Widths that are multiples of all lengths of rings here, and a last one.
                near, far = [max([greatest(table, width + more)[0] for more in range(12)]) for width in (60, 120)]
                self.assertLess(2 ** way[1] * 0.6, far / near)
                self.assertLess(far / near, 2 ** way[1] * 1.4)
            elif way[0] == "most":
                numbers = [greatest(table, width)[0] for width in range(12)]
                self.assertEqual(max(numbers), way[1])

    def test_a_least_question_with_the_most_answers(self):
        for table, way in known_tables():
            if way[0] == "most":
                self.assertEqual(max([counting.answers_told(table, held)
                                      for _, held in counting.met_vectors(table)]), way[1])

    def test_twelve_useful_states_and_one_more(self):
        for many in (12, 13):
            tables = [widths_table([at == many - 1 for at in range(many + 1)]), round_table(many, 3),
                      letters_table([at % 3 == 0 or at == many - 1 for at in range(many)],
                                    [((at + 1) % many, 0) for at in range(many)]),
                      ones_table(many - 1), chain_table((many - 1, 1))]
            for table in tables:
                self.assertEqual(len(oracles.useful(table)), many)
                if many == 12:
                    self.assertIn(growth(table)[0], ("most", "power", "doubling"))
                    most_answers(table)
                else:
                    self.assertTooMany(12, growth, table)
                    self.assertTooMany(12, most_answers, table)
        self.assertEqual(growth(ones_table(11)), ("power", 11))

    def test_two_thousand_vectors_and_one_more(self):
        few, many = [parts_table(((4, 5), (3, 6), (3, 5), (last, 1)), 6) for last in (3, 4)]
        self.assertEqual([len(counting.met_vectors(table)) for table in (few, many)], [2000, 2001])
        self.assertEqual(growth(few), ("most", max([counting.answers_told(few, held)
                                                    for _, held in counting.met_vectors(few)])))
        self.assertEqual(most_answers(few), growth(few)[1])
        self.assertTooMany(2000, growth, many)
        self.assertTooMany(2000, most_answers, many)
        self.assertEqual(growth(spread_table(0)), ("most", 5))
        self.assertTooMany(2000, growth, spread_table(1))
        # What doubles, or grows with a power, may have any number of vectors.
        self.assertEqual(growth(ones_table(5)), ("power", 5))

    def test_twelve_states_with_many_moves(self):
        # Each state leads to all greater ones, and to itself: the power is the greatest that there can be.
        moves = [(state, letter, answer, min(11, state + answer + letter * (answer > 0)))
                 for state, letter, answer in product(range(11), range(4), range(4))]
        moves = list({(state, letter, answer): following for state, letter, answer, following in moves}.items())
        table = moves_table(2, 2, [at == 10 for at in range(12)], [key + (following,) for key, following in moves])
        self.assertEqual(growth(table)[0], "power")


class GreatestTest(Checked):

    def test_all_questions_of_small_widths(self):
        for table in list(some_tables())[::3] + [table for table, _ in known_tables()]:
            for width in range(counting.small(table) + 1):
                numbers = [(len(counting.answers(table, question)), question)
                           for question in counting.questions(table, width)]
                most = max([many for many, _ in numbers])
                self.assertEqual(self.answer(greatest, table, width),
                                 (most, [question for many, question in numbers if many == most][0]))

    def test_widths_0_and_200(self):
        self.assertEqual(greatest(F, 200), (2 ** 200, "1" * 200))
        self.assertEqual(greatest(nothing(2, 2), 200), (0, "0" * 200))
        self.assertEqual(greatest(everything(2, 2), 200), (4 ** 200, "0" * 200))
        self.assertEqual([greatest(table, 0) for table in (C, nothing(1, 1), Table.of(ODD))], [(1, ""), (0, ""), (0, "")])
        for width in (201, -1, True, None):
            self.assertRaisesThis(InvalidNumber, width, greatest, C, width)

    def test_the_greatest_number_falls(self):
        # [0.18] It may fall from one width to the next.
        self.assertEqual([greatest(Table.of(ODD), width)[0] for width in range(4)], [0, 1, 0, 1])

    def test_two_thousand_vectors_of_one_width_and_one_more(self):
        few, many = counters_table(16), counters_table(15)
        self.assertEqual([len(counting.width_vectors(table, 62)) for table in (few, many)], [2000, 2001])
        found = self.answer(greatest, few, 62)
        # Each letter 1 or 2 behind the first one is one answer more; the least such question has ones.
        self.assertEqual(found, (62, "0" + "1" * 61))
        self.assertTooMany(2000, greatest, few, 63)
        self.assertEqual(greatest(many, 61), (61, "0" + "1" * 60))
        for width in (62, 63, 200):
            self.assertTooMany(2000, greatest, many, width)

    def test_any_number_of_useful_states(self):
        self.assertEqual(greatest(round_table(60, 59), 59), (2 ** 59, "0" * 59))
        self.assertEqual(greatest(ones_table(20), 20), (2 ** 20, "1" * 20))


class JointsTest(Checked):

    def test_joints(self):
        made = [(table, way) for table, way in known_tables() if (table.reads, table.writes) == (1, 1) and len(table) < 6]
        order = {"most": 0, "power": 1, "doubling": 2}
        looked_at = 0
        for (one, way), (other, other_way) in product(made, repeat=2):
            joint = one | other
            if len(oracles.useful(joint)) > 12:
                continue
            looked_at += 1
            faster, slower = sorted((way, other_way), key=lambda each: (order[each[0]], each[1:]), reverse=True)
            found = growth(joint)
            if faster[0] == "most":
                self.assertEqual(found[0], "most")
                self.assertTrue(faster[1] <= found[1] <= faster[1] + slower[1])
            else:
                self.assertEqual(found, faster)
        self.assertGreater(looked_at, 100)

    def test_one_table_behind_another(self):
        made = [(table, way) for table, way in known_tables() if (table.reads, table.writes) == (1, 1) and len(table) < 6]
        looked_at = 0
        for (one, way), (other, other_way) in product(made, repeat=2):
            if "doubling" in (way[0], other_way[0]):
                continue
            table = behind(one, other)
            try:
                found = growth(table)
            except TooMany:
                continue
            looked_at += 1
            powers = [each[1] if each[0] == "power" else 0 for each in (way, other_way)]
            self.assertNotEqual(found, ("doubling",))
            self.assertLessEqual(found[1] if found[0] == "power" else 0, sum(powers))
            if found[0] == "most" and way[0] == "most" and other_way[0] == "most":
                self.assertLessEqual(found[1], way[1] * other_way[1])
        self.assertGreater(looked_at, 80)

    def test_statements_that_are_not_true(self):
        # [0.18] A table and the turned one do not grow alike, and powers do not always add up.
        self.assertEqual([growth(table) for table in (C, turned(C))], [("most", 1), ("most", 1)])
        once = letterwise(1, 1, ((0, 0), (1, 0)))
        self.assertEqual([growth(once), growth(turned(once))], [("most", 1), ("doubling",)])
        self.assertEqual([growth(O), growth(behind(O, O))], [("power", 1), ("power", 1)])

    def test_beats(self):
        self.assertEqual(growth(beats_table(0, 5)), ("doubling",))
        self.assertEqual(growth(beats_table(0, 1)), ("doubling",))


class ErrorsTest(Checked):

    def test_wrong_arguments(self):
        wrong = (InvalidTable, wrong_tables())
        self.check_wrong(growth, (O,), wrong)
        self.check_wrong(most_answers, (O,), wrong)
        self.check_wrong(greatest, (O, 3), wrong, (InvalidNumber, wrong_numbers(0, 200)))

    def test_a_row_is_no_table(self):
        self.assertRaisesThis(InvalidTable, None, growth, Mayrow(1, 1, 1, (), ()))

    def test_a_wrong_width_counts_ahead_of_too_many(self):
        self.assertRaisesThis(InvalidNumber, 201, greatest, counters_table(15), 201)
