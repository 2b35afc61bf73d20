"""Points 2.1 to 2.4: the rows of cells between neighbours."""

import random
from itertools import product

from mayrows.errors import InvalidRow
from mayrows.row.cells import cell_row
from mayrows.row.rows import Mayrow
from tests import oracles
from tests.checking import Checked, strangers, wrong_numbers
from tests.samples import COPY

NEXT = {(0, 0, 0): ((0, 0, 0),), (0, 0, 1): ((1, 0, 0),), (0, 1, 0): ((0, 0, 1),), (0, 1, 1): ((1, 0, 1),)}
FLAG = {(0, 0, 0): ((0, 0, 0),), (0, 1, 0): ((1, 1, 0),), (1, 0, 0): ((1, 1, 0),), (1, 1, 0): ((1, 1, 0),)}
SIZES = [(lefts, rights) for lefts in range(1, 7) for rights in range(1, 7) if lefts * rights <= 6]


def random_rule(seed, reads, writes, lefts, rights):
    """A rule that lists some triples, in no order."""
    chance = random.Random(seed)
    rule = {}
    for got in product(range(lefts), range(2 ** reads), range(rights)):
        given = list(product(range(2 ** writes), range(lefts), range(rights)))
        chance.shuffle(given)
        if chance.random() < 0.9:
            rule[got] = tuple(given[:chance.randint(0, 2)])
    return rule


def settings(rule, lefts, rights, outs, question):
    """The answer text of each setting of a question, by point 2.2 alone."""
    found = []
    for signals in product(product(range(lefts), range(rights)), repeat=len(question) + 1):
        # signals[k] stand between the cells k - 1 and k: what is sent to the right there, and to the left.
        if signals[0] != (0, 0) or signals[-1][0] not in outs or signals[-1][1] != 0:
            continue
        texts = [""]
        for place, mark in enumerate(question):
            got = (signals[place][0], int(mark), signals[place + 1][1])
            given = (signals[place + 1][0], signals[place][1])
            texts = [text + str(answer) for text in texts for answer, onward, back in rule.get(got, ())
                     if (onward, back) == given]
        found = found + texts
    return found


class ExamplesTest(Checked):

    def test_next(self):
        row = self.answer(cell_row, 1, 1, 1, 2, NEXT)
        self.assertEqual([row.choices, row.lasts, row.answers("011"), row.answers("10")],
                         [((0, 0, 0, 0), (0, 0, 1, 1), (1, 1, 0, 0), (1, 1, 1, 1)), (0,), ("110",), ()])

    def test_flag(self):
        self.assertEqual([cell_row(1, 1, 2, 1, FLAG).answers("0010"),
                          cell_row(1, 1, 2, 1, FLAG, outs=(1,)).answers("00"),
                          cell_row(1, 1, 2, 1, FLAG, outs=(1,)).lasts], [("0011",), (), (1,)])

    def test_a_question_that_begins_with_1_has_no_answer(self):
        row = cell_row(1, 1, 1, 2, NEXT)
        for width in range(1, 6):
            for question in oracles.texts(2, width):
                right = () if question[0] == "1" else (question[1:] + "0",)
                self.assertEqual(row.answers(question), right)


class CellsTest(Checked):

    def test_the_row_of_a_rule(self):
        for seed, (lefts, rights) in enumerate(SIZES):
            reads, writes = 1 + seed % 2, 1 + seed // 2 % 2
            rule = random_rule(seed, reads, writes, lefts, rights)
            row = self.answer(cell_row, reads, writes, lefts, rights, rule)
            choices = [(left * rights + back, letter, answer, onward * rights + right)
                       for (left, letter, right), given in rule.items() for answer, onward, back in given]
            self.assertEqual(row, Mayrow(reads, writes, lefts * rights, tuple(choices),
                                         tuple([left * rights for left in range(lefts)])))

    def test_settings_are_walks(self):
        for seed, (lefts, rights) in enumerate(SIZES + SIZES):
            reads, writes = 1 + seed % 2, 1 + seed // 2 % 2
            rule = random_rule(seed, reads, writes, lefts, rights)
            outs = tuple([left for left in range(lefts) if (seed + left) % 3])
            row = cell_row(reads, writes, lefts, rights, rule, outs=outs)
            for width in range(4 if lefts * rights < 5 else 3):
                for question in oracles.texts(2 ** reads, width)[:16]:
                    found = settings(rule, lefts, rights, outs, question)
                    self.assertEqual(row.walks(question), len(found))
                    self.assertEqual(row.answers(question), tuple(sorted(set(found))))

    def test_the_empty_question(self):
        for outs in ((), (0,), (1,), (1, 0), None):
            row = cell_row(1, 1, 2, 1, FLAG, outs=outs)
            self.assertEqual(row.answers(""), ("",) if outs is None or 0 in outs else ())

    def test_outs(self):
        for lefts, rights in SIZES:
            self.assertEqual(cell_row(1, 1, lefts, rights, {}).lasts, tuple(range(0, lefts * rights, rights)))
            self.assertEqual(cell_row(1, 1, lefts, rights, {}, outs=None), cell_row(1, 1, lefts, rights, {}))
            self.assertEqual(cell_row(1, 1, lefts, rights, {}, outs=()).lasts, ())
            for outs in ((lefts - 1,), tuple(range(lefts))[::-1]):
                self.assertEqual(cell_row(1, 1, lefts, rights, {}, outs=outs).lasts,
                                 tuple(sorted([left * rights for left in outs])))

    def test_an_empty_rule(self):
        row = cell_row(2, 2, 2, 3, {})
        self.assertEqual((row.reads, row.writes, row.states, row.choices, row.answers("0")), (2, 2, 6, (), ()))
        self.assertEqual(cell_row(1, 1, 1, 1, {(0, 0, 0): (), (0, 1, 0): ()}), cell_row(1, 1, 1, 1, {}))

    def test_the_product_of_the_signals(self):
        for lefts, rights in product(range(1, 8), repeat=2):
            if lefts * rights <= 6:
                self.assertEqual(cell_row(1, 1, lefts, rights, {}).states, lefts * rights)
            else:
                self.assertRaisesThis(InvalidRow, None, cell_row, 1, 1, lefts, rights, {})

    def test_the_order_of_a_rule_has_no_effect(self):
        turned = {got: NEXT[got][::-1] for got in list(NEXT)[::-1]}
        self.assertEqual(cell_row(1, 1, 1, 2, turned), cell_row(1, 1, 1, 2, NEXT))

    def test_the_row_shares_nothing_with_the_rule(self):
        rule = dict(FLAG)
        row = cell_row(1, 1, 2, 1, rule)
        rule.clear()
        self.assertEqual(row, cell_row(1, 1, 2, 1, FLAG))

    def test_mirrored_rules(self):
        for seed, (lefts, rights) in enumerate(SIZES * 3):
            rule = random_rule(seed, 1, 1, lefts, rights)
            mirrored = {(right, letter, left): tuple([(answer, back, onward) for answer, onward, back in given])
                        for (left, letter, right), given in rule.items()}
            row = cell_row(1, 1, lefts, rights, rule, outs=(0,))
            other = cell_row(1, 1, rights, lefts, mirrored, outs=(0,))
            for width in range(5):
                for question in oracles.texts(2, width):
                    self.assertEqual(row.walks(question), other.walks(question[::-1]))
                    back = sorted([answer[::-1] for answer in other.answers(question[::-1])])
                    self.assertEqual(row.answers(question), tuple(back))

    def test_mirrored_rules_with_other_outs_can_differ(self):
        rule = {(0, 0, 0): ((0, 1, 0),)}
        mirrored = {(0, 0, 0): ((0, 0, 1),)}
        self.assertEqual(cell_row(1, 1, 2, 1, rule).answers("0"), ("0",))
        self.assertEqual(cell_row(1, 1, 1, 2, mirrored).answers("0"), ())


def is_right_rule(value):
    """Whether the strangers' value is a rule of cells with two signals to the right and one to the left."""
    return value == {} or value == {(0, 0, 0): ((0, 0, 0),)}


WRONG_RULES = [
    {(2, 0, 0): ()}, {(0, 2, 0): ()}, {(0, 0, 1): ()}, {(-1, 0, 0): ()}, {(0, 0, -1): ()}, {(0, 0): ()},
    {(0, 0, 0, 0): ()}, {(False, 0, 0): ()}, {(0, True, 0): ()}, {(0, 0, None): ()}, {(0, 0, "0"): ()}, {"000": ()},
    {None: ()}, {0: ()}, {True: ()}, {(): ()}, {(0, 0, 10 ** 60): ()}, {(0, 0, (0,)): ()},
    {(0, 0, 0): ((2, 0, 0),)}, {(0, 0, 0): ((0, 2, 0),)}, {(0, 0, 0): ((0, 0, 1),)}, {(0, 0, 0): ((-1, 0, 0),)},
    {(0, 0, 0): ((0, 0, 0), (0, 0, 0))}, {(0, 0, 0): ((0, 0, 0), (0, 1, 0), (0, 0, 0))}, {(0, 0, 0): [(0, 0, 0)]},
    {(0, 0, 0): ([0, 0, 0],)}, {(0, 0, 0): (0, 0, 0)}, {(0, 0, 0): ((0, 0),)}, {(0, 0, 0): ((0, 0, 0, 0),)},
    {(0, 0, 0): ((True, 0, 0),)}, {(0, 0, 0): ((0, False, 0),)}, {(0, 0, 0): ((0, 0, False),)},
    {(0, 0, 0): ((None, 0, 0),)}, {(0, 0, 0): (("0", 0, 0),)}, {(0, 0, 0): (([], 0, 0),)}, {(0, 0, 0): None},
    {(0, 0, 0): 0}, {(0, 0, 0): "000"}, {(0, 0, 0): {}}, {(0, 0, 0): COPY}, {(0, 0, 0): (COPY,)},
    {(0, 0, 0): ((0, 0, 10 ** 60),)}, {(0, 0, 0): ((0, 0, 0),), (0, 1, 0): ((0, 0, 5),)},
    ((0, 0, 0), ((0, 0, 0),)), [((0, 0, 0), ((0, 0, 0),))]]
WRONG_OUTS = [(2,), (-1,), (0, 0), (0, 1, 0), (True,), (1, False), (None,), ("0",), ((0,),), [0], [], {0: 0}, "0",
              (10 ** 60,)]


class WrongCellsTest(Checked):

    def test_wrong_arguments(self):
        rules = WRONG_RULES + [value for value in strangers() if not is_right_rule(value)]
        outs = WRONG_OUTS + [value for value in strangers() if value is not None and not (
            type(value) is tuple and (value == () or value == (0,) and type(value[0]) is int))]
        self.check_wrong(
            lambda reads, writes, lefts, rights, rule, outs: cell_row(reads, writes, lefts, rights, rule, outs=outs),
            (1, 1, 2, 1, FLAG, (1,)), (InvalidRow, wrong_numbers(1, 2)), (InvalidRow, wrong_numbers(1, 2)),
            (InvalidRow, [value for value in wrong_numbers(2, 6)]), (InvalidRow, wrong_numbers(1, 3)),
            (InvalidRow, rules), (InvalidRow, outs))

    def test_ranges_hang_on_the_other_arguments(self):
        self.assertRaisesThis(InvalidRow, None, cell_row, 1, 1, 1, 1, FLAG)
        self.assertRaisesThis(InvalidRow, None, cell_row, 1, 1, 2, 1, NEXT)
        self.assertEqual(len(cell_row(2, 2, 1, 1, {(0, 3, 0): ((3, 0, 0),)})), 1)
        self.assertRaisesThis(InvalidRow, None, cell_row, 1, 2, 1, 1, {(0, 3, 0): ((3, 0, 0),)})
        self.assertRaisesThis(InvalidRow, None, cell_row, 2, 1, 1, 1, {(0, 3, 0): ((3, 0, 0),)})
