"""Point 9.5: growth papers."""

from itertools import product

from mayrows.count.vectors import least_with
from mayrows.errors import InvalidTable
from mayrows.grow import papers
from mayrows.grow.growth import growth
from mayrows.grow.papers import growth_paper, is_growth_paper
from mayrows.table.calculus import letterwise, nothing
from mayrows.table.tables import Table
from tests import counting, growing, oracles
from tests.checking import Checked, spoilt, strangers, wrong_tables
from tests.samples import (COPY, FREE, LATE, ONCE, chain_table, letters_table, moves_table, ones_table, parts_table,
                           round_table, spread_table, widths_table)
from tests.test_growth import known_tables, some_tables

C, F, O, L = Table.of(COPY), Table.of(FREE), Table.of(ONCE), Table.of(LATE)
# A power with parallel moves: behind the loops, a last letter may be answered in two ways.
PARALLEL = moves_table(1, 1, [False, True, True], [(0, 0, 0, 0), (0, 0, 1, 1), (1, 0, 0, 1), (1, 1, 0, 2), (1, 1, 1, 2)])


# The same, but the state with these moves has no loop, and the one behind it has one.
PASSED = moves_table(1, 1, [False, True, True, True], [(0, 0, 0, 0), (0, 0, 1, 1), (1, 0, 0, 1), (1, 1, 0, 2),
                                                       (2, 0, 0, 3), (2, 0, 1, 3), (3, 1, 0, 3)])


def shown_tables():
    """Tables with at most nine useful states, each with its way to grow."""
    for table, way in known_tables():
        if len(oracles.useful(table)) <= 9:
            yield table, way
    for table in some_tables():
        yield table, growth(table)
    yield PARALLEL, ("power", 1)
    yield PASSED, ("power", 1)


def is_right(table, value):
    """Whether the package and the oracle both take the value for a paper; they never differ."""
    found = is_growth_paper(table, value)
    assert found is growing.is_growth_paper(table, value), value
    return found


class ExamplesTest(Checked):

    def test_papers(self):
        self.assertEqual([is_growth_paper(F, ("doubling", ("", ""), ("1", "0", "1"), ("", ""))),
                          is_growth_paper(C, ("most", 1, "", ((1,),))), growth_paper(O)[0]], [True, True, "power"])

    def test_constant(self):
        self.assertEqual(papers.MAX_SHOWN, 9)


class ToldTest(Checked):

    def test_told_papers_are_right(self):
        ways = set()
        for table, way in shown_tables():
            paper = self.answer(growth_paper, table)
            ways.add(way[0] if way[0] != "power" else way)
            self.assertEqual(paper[0], way[0])
            self.assertIs(growing.is_growth_paper(table, paper), True)
            self.assertIs(self.answer(is_growth_paper, table, paper), True)
            if way[0] == "most":
                self.assertEqual(paper[1], way[1])
                self.assertEqual(len(paper[2]), len(least_with(table, way[1])))
            elif way[0] == "power":
                self.assertEqual(len(paper[1]), 2 * way[1] + 1)
        self.assertTrue(ways >= {"most", "doubling", ("power", 1), ("power", 2), ("power", 3), ("power", 8)})

    def test_steps_tell_as_many_answers(self):
        for table, way in shown_tables():
            if way[0] == "power" and way[1] <= 3:
                steps = growth_paper(table)[1]
                for many in (1, 2, 3):
                    question = "".join([step[0] if len(step) == 2 else step[0] * many for step in steps])
                    self.assertGreaterEqual(counting.answers_told(table, _vector(table, question)), many ** way[1])

    def test_rounds_tell_as_many_answers(self):
        for table, way in shown_tables():
            if way[0] == "doubling":
                _, begin, middle, end = growth_paper(table)
                for many in (0, 1, 5):
                    question = begin[0] + middle[0] * many + end[0]
                    self.assertGreaterEqual(counting.answers_told(table, _vector(table, question)), 2 ** many)

    def test_nine_useful_states_and_one_more(self):
        for many in (9, 10):
            tables = [widths_table([at == many - 1 for at in range(many + 1)]), round_table(many, 3),
                      letters_table([at % 3 == 0 or at == many - 1 for at in range(many)],
                                    [((at + 1) % many, 0) for at in range(many)]),
                      ones_table(many - 1), chain_table((many - 1, 1)), chain_table((4, many - 4))]
            for table in tables:
                self.assertEqual(len(oracles.useful(table)), many)
                if many == 9:
                    self.assertIs(is_right(table, growth_paper(table)), True)
                else:
                    self.assertTooMany(9, growth_paper, table)
                    for value in (None, ("most", 1, "", ()), ("doubling", ("", ""), ("0", "0", "1"), ("", ""))):
                        self.assertTooMany(9, is_growth_paper, table, value)

    def test_two_thousand_vectors_and_one_more(self):
        few, many = spread_table(0), spread_table(1)
        self.assertEqual([len(counting.met_vectors(table)) for table in (few, many)], [2000, 2001])
        paper = self.answer(growth_paper, few)
        self.assertEqual((paper[:2], len(paper[3])), (("most", 5), 2000))
        self.assertIs(is_growth_paper(few, paper), True)
        self.assertTooMany(2000, growth_paper, many)
        every = tuple(sorted([held for _, held in counting.met_vectors(many)]))
        question = paper[2] + "0"
        self.assertEqual(counting.answers_told(many, _vector(many, "0" + paper[2])), 5)
        self.assertIs(is_growth_paper(many, ("most", 5, "0" + paper[2], every)), False)
        self.assertIs(is_growth_paper(few, ("most", 5, question, paper[3])),
                      counting.answers_told(few, _vector(few, question)) == 5)
        # One vector more than 2000 is too many, also if it is closed.
        more = tuple([0] * 7 + [5])
        self.assertNotIn(more, paper[3])
        self.assertIs(is_growth_paper(few, ("most", 5, paper[2], tuple(sorted(paper[3] + (more,))))), False)

    def test_tables_without_pairs(self):
        for reads, writes in product((1, 2), repeat=2):
            self.assertEqual(growth_paper(nothing(reads, writes)), ("most", 0, "", ((),)))
            self.assertIs(is_right(nothing(reads, writes), ("most", 0, "11", ((),))), True)
            self.assertIs(is_right(nothing(reads, writes), ("most", 0, "11", ())), False)
            self.assertIs(is_right(nothing(reads, writes), ("most", 1, "11", ((),))), False)


def _vector(table, question):
    """The vector of a question of any width."""
    kept = oracles.useful(table)
    held = tuple([int(state == 0) for state in kept])
    for letter in question:
        held = counting.vectors_after(table, held, None, kept)[int(letter)]
    return held


class MadeTest(Checked):

    def test_any_question_with_the_most_answers(self):
        for table in (C, L, C | L):
            paper = growth_paper(table)
            for question in counting.questions_to(table, 4):
                many = len(counting.answers(table, question))
                self.assertIs(is_right(table, ("most", paper[1], question, paper[3])), many == paper[1])
                self.assertIs(is_right(table, ("most", paper[1] + 1, question, paper[3])), False)
        self.assertIs(is_right(C, ("most", 1, "01" * 100, ((1,),))), True)
        self.assertIs(is_right(C, ("most", 1, "01" * 100 + "0", ((1,),))), False)

    def test_any_closed_vectors(self):
        # Vectors that no question has can be told, too, as long as they are closed and tell no more answers.
        self.assertIs(is_right(C, ("most", 1, "", ((0,), (1,)))), True)
        self.assertIs(is_right(C, ("most", 1, "", ((1,), (2,)))), False)
        self.assertIs(is_right(C, ("most", 1, "", ((0,),))), False)
        self.assertIs(is_right(C, ("most", 1, "", ((1,), (0,)))), False)
        self.assertIs(is_right(L, ("most", 1, "", ((0, 0, 0), (0, 1, 1), (1, 0, 0)))), True)
        self.assertIs(is_right(L, ("most", 1, "", ((0, 1, 0), (0, 1, 1), (1, 0, 0)))), False)
        self.assertIs(is_right(L, ("most", 1, "", ((0, 0, 0), (0, 0, 1), (0, 1, 0), (0, 1, 1), (1, 0, 0)))), True)
        self.assertIs(is_right(L, ("most", 1, "", ((0, 1, 1, 0), (1, 0, 0, 0)))), False)
        self.assertIs(is_right(L, ("most", 1, "", ((0, 1, 1), (1, 0, 0), (1, 0, 10 ** 60)))), False)

    def test_a_paper_of_another_way(self):
        every = [(table, growth_paper(table)) for table in (C, F, O, L, C | L, PARALLEL, ones_table(2))]
        for table, own in every:
            for _, paper in every:
                self.assertIs(is_right(table, paper), paper == own)

    def test_any_rounds(self):
        for question in counting.questions_to(F, 3):
            answers = counting.answers(F, question)
            for one, two in product(answers, repeat=2):
                for width in (0, 1, 2):
                    text = "1" * width
                    self.assertIs(is_right(F, ("doubling", (text, text), (question, one, two), (text, "0" * width))),
                                  one != two)
        self.assertIs(is_right(F, ("doubling", ("1" * 200, "0" * 200), ("1" * 200, "1" * 200, "0" * 200), ("", ""))), True)
        self.assertIs(is_right(F, ("doubling", ("", ""), ("1" * 201, "1" * 201, "0" * 201), ("", ""))), False)
        self.assertIs(is_right(F, ("doubling", ("0", "1"), ("1", "0", "1"), ("", ""))), False)
        self.assertIs(is_right(F, ("doubling", ("", ""), ("1", "0", "1"), ("0", "1"))), False)

    def test_rounds_at_a_state_without_use(self):
        # All moves of a state without use lead to itself, but no pair leads from there to a last state.
        for end in (("", ""), ("1", "0")):
            self.assertIs(is_right(C, ("doubling", ("0", "1"), ("1", "0", "1"), end)), False)

    def test_other_steps(self):
        _, steps, ranks, heights, numbers = growth_paper(O)
        self.assertEqual(steps, (("", ""), ("1", "0", "1", "0"), ("", "")))
        # State 0 writes the 1, and state 2 is behind it.
        for way in (("", ""), ("01", "00"), ("1" * 200, "0" * 200)):
            for loop in (("1", "0", "1", "0"), ("101", "000", "001", "000"), ("1" * 200, "0" * 200, "1".zfill(200),
                                                                            "0" * 200)):
                for last in (("", ""), ("111", "000")):
                    self.assertIs(is_right(O, ("power", (way, loop, last), ranks, heights, numbers)), True)
        for wrong in ((("1", "1"), steps[1], steps[2]), (steps[0], ("1", "1", "1", "0"), steps[2]),
                      (steps[0], ("1", "0", "0", "0"), steps[2]), (steps[0], ("1", "0", "1", "1"), steps[2]),
                      (steps[0], steps[1], ("1", "1")), steps[:2], steps[:1], steps + steps[1:], (), steps[0]):
            self.assertIs(is_right(O, ("power", wrong, ranks, heights, numbers)), False)

    def test_more_loops_than_the_power(self):
        paper = growth_paper(ones_table(2))
        # The same loop cannot be taken twice, and with a loop less the ranks are too great.
        steps = paper[1]
        self.assertIs(is_right(ones_table(2), ("power", steps[:2] + steps[4:]) + paper[2:]), False)
        self.assertIs(is_right(ones_table(2), ("power", steps[:2] + steps) + paper[2:]), False)
        # The last way is lacking, though all states are last ones.
        self.assertIs(is_right(ones_table(2), ("power", steps[:4]) + paper[2:]), False)
        self.assertIs(is_right(ones_table(2), paper), True)

    def test_no_loops(self):
        value = ("power", (("", ""),), (0,), (0,), (((0, 0, 0), 0),))
        self.assertIs(is_right(C, value), False)
        self.assertIs(is_right(C, ("power", ()) + value[2:]), False)

    def test_other_ranks(self):
        _, steps, ranks, heights, numbers = growth_paper(O)
        self.assertEqual(ranks, (0, 1))
        # With one rank, there would have to be more triples, and their numbers would have to fall.
        for told in product(range(3), repeat=2):
            for values in product(range(2), repeat=8):
                triples = [three for three in product((0, 2), repeat=3)
                           if len({told[three[at] // 2] for at in range(3)}) == 1]
                value = ("power", steps, told, heights, tuple(zip(triples, values)))
                self.assertIs(is_right(O, value), told == (0, 1))

    def test_other_heights(self):
        _, steps, ranks, heights, numbers = growth_paper(PARALLEL)
        good = [told for told in product(range(4), repeat=3)
                if is_right(PARALLEL, ("power", steps, ranks, told, numbers))]
        self.assertIn(heights, good)
        self.assertEqual(good, [told for told in product(range(4), repeat=3) if told[0] >= told[1] > told[2]])
        self.assertIs(is_right(PARALLEL, ("power", steps, ranks, (10 ** 60 - 1, 10 ** 60 - 1, 7), numbers)), True)
        self.assertIs(is_right(PARALLEL, ("power", steps, ranks, (10 ** 60, 10 ** 60 - 1, 7), numbers)), False)

    def test_other_numbers(self):
        found = {True: 0, False: 0}
        for table, way in list(shown_tables())[:60] + [(PARALLEL, None)]:
            if way is not None and way[0] != "power":
                continue
            _, steps, ranks, heights, numbers = growth_paper(table)
            for factor, more in ((1, 5), (3, -7), (10 ** 50, 0), (1, -10 ** 59)):
                changed = tuple([(triple, factor * number + more) for triple, number in numbers])
                self.assertIs(is_right(table, ("power", steps, ranks, heights, changed)), True)
            for at in range(0, len(numbers), 1 + len(numbers) // 20):
                for more in (-2, -1, 1, 2):
                    changed = list(numbers)
                    changed[at] = (numbers[at][0], numbers[at][1] + more)
                    found[is_right(table, ("power", steps, ranks, heights, tuple(changed)))] += 1
        self.assertGreater(min(found.values()), 20)

    def test_numbers_for_other_triples(self):
        paper = growth_paper(chain_table((2, 2)))
        numbers = paper[4]
        for changed in (numbers[1:], numbers[:-1], numbers[::-1], numbers + numbers[-1:], numbers[:1] * len(numbers),
                        tuple([(triple[::-1], number) for triple, number in numbers]), (), None, list(numbers),
                        tuple([(list(triple), number) for triple, number in numbers])):
            self.assertIs(is_right(chain_table((2, 2)), paper[:4] + (changed,)), False)


class JudgedTest(Checked):

    def test_spoilt_papers(self):
        wrong = 0
        for table in (C, F, O, L, C | L, nothing(1, 1), PARALLEL, letterwise(2, 2, ((3, 1), (0, 0)))):
            for value in spoilt(growth_paper(table)):
                right = growing.is_growth_paper(table, value)
                wrong += not right
                self.assertIs(is_growth_paper(table, value), right, value)
        self.assertGreater(wrong, 2000)

    def test_any_value_can_be_judged(self):
        _, steps, ranks, heights, numbers = growth_paper(O)
        for part in strangers() + [10 ** 5000, "1" * 5000, "most", "power", "doubling"]:
            for value in (part, (part,), ("most", part, "", ((1, 0),)), ("most", 1, part, ((1,),)), ("most", 1, "", part),
                          ("most", 1, "", (part,)), ("most", 1, "", ((part,),)), (part, 1, "", ((1,),)),
                          ("power", part, ranks, heights, numbers), ("power", steps, part, heights, numbers),
                          ("power", steps, ranks, part, numbers), ("power", steps, ranks, heights, part),
                          ("power", (part,) + steps[1:], ranks, heights, numbers),
                          ("power", (steps[0], part, steps[2]), ranks, heights, numbers),
                          ("power", steps, (part, 1), heights, numbers), ("power", steps, ranks, (part, 0), numbers),
                          ("power", steps, ranks, heights, (part, numbers[1])),
                          ("power", steps, ranks, heights, ((part, 0), numbers[1])),
                          ("power", steps, ranks, heights, (((0, 0, part), 0), numbers[1])),
                          ("power", steps, ranks, heights, ((numbers[0][0], part), numbers[1])),
                          (part, steps, ranks, heights, numbers), ("doubling", part, ("1", "0", "1"), ("", "")),
                          ("doubling", ("", ""), part, ("", "")), ("doubling", ("", ""), ("1", "0", "1"), part),
                          ("doubling", ("", ""), ("1", part, "1"), ("", "")), (part, ("", ""), ("1", "0", "1"), ("", "")),
                          ("doubling", ("", part), ("1", "0", "1"), (part, ""))):
                for table in (C, F, O):
                    self.assertIs(is_growth_paper(table, value), growing.is_growth_paper(table, value), value)

    def test_booleans_are_no_integers(self):
        _, steps, ranks, heights, numbers = growth_paper(O)
        self.assertIs(is_right(C, ("most", True, "", ((1,),))), False)
        self.assertIs(is_right(C, ("most", 1, "", ((True,),))), False)
        self.assertIs(is_right(O, ("power", steps, (False, 1), heights, numbers)), False)
        self.assertIs(is_right(O, ("power", steps, (0, True), heights, numbers)), False)
        self.assertIs(is_right(O, ("power", steps, ranks, (False, False), numbers)), False)
        self.assertIs(is_right(O, ("power", steps, ranks, heights, (((0, 0, False), 0), numbers[1]))), False)
        self.assertIs(is_right(O, ("power", steps, ranks, heights, (((0, 0, 0), False), numbers[1]))), False)


class ErrorsTest(Checked):

    def test_wrong_arguments(self):
        wrong = (InvalidTable, wrong_tables())
        self.check_wrong(growth_paper, (O,), wrong)
        self.check_wrong(lambda table: is_growth_paper(table, None), (O,), wrong)
        for value in strangers():
            self.assertRaisesThis(InvalidTable, None, is_growth_paper, None, value)

    def test_too_many_states_count_ahead_of_too_many_vectors(self):
        self.assertTooMany(9, growth_paper, parts_table(((4, 5), (3, 6), (3, 5), (4, 1)), 6))
        self.assertTooMany(9, growth_paper, ones_table(9))
