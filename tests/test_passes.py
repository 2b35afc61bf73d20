"""Points 7.2 and 7.3: the class of plain rows."""

from mayrows.errors import InvalidPasses, InvalidText
from mayrows.least import passes as module
from mayrows.least.passes import Passes
from tests import counting, oracles
from tests.checking import Checked, is_same, spoilt, strangers, wrong_texts
from tests.samples import PARITY, random_passes

NAMES = ("reads", "writes", "rights", "starts", "lefts")


def values_of(row):
    """The five properties of a plain row."""
    return tuple([getattr(row, name) for name in NAMES])


def is_plain(value):
    """Whether the value is a tuple of five values that make a plain row [7.2, 7.3]."""
    reads, writes, rights, starts, lefts = value
    if not all(type(lines) is int and lines in (1, 2) for lines in (reads, writes)):
        return False
    if type(rights) is not tuple or not 1 <= len(rights) <= 60 or type(lefts) is not tuple or not 1 <= len(lefts) <= 60:
        return False
    for row in rights:
        if type(row) is not tuple or len(row) != 2 ** reads:
            return False
        if not all(oracles.is_plain_int(right, len(rights)) for right in row):
            return False
    if type(starts) is not tuple or not all(oracles.is_plain_int(right, len(rights)) for right in starts):
        return False
    if list(starts) != sorted(set(starts)):
        return False
    for row in lefts:
        if type(row) is not tuple or len(row) != 2 ** reads:
            return False
        for entry in row:
            if type(entry) is not tuple or len(entry) != len(rights):
                return False
            for pair in entry:
                if type(pair) is not tuple or len(pair) != 2:
                    return False
                if not all(map(oracles.is_plain_int, pair, (2 ** writes, len(lefts)))):
                    return False
    return True


class ExamplesTest(Checked):

    def test_parity(self):
        self.assertEqual([PARITY("0110"), PARITY.right_state("100"), str(PARITY), "02" in PARITY],
                         ["0100", 1, "passes of 2 right and 1 left states", False])

    def test_constants(self):
        self.assertEqual((module.MAX_SIDE, module.MAX_PLACE, module.MAX_MET), (60, 3, 5000))


class AnswersTest(Checked):

    def test_all_questions_of_small_widths(self):
        for seed in range(60):
            row = random_passes(seed, 1 + seed % 2, 1 + seed // 2 % 2, 1 + seed % 4)
            for question in counting.questions_to(row, 5 if row.reads == 1 else 3):
                expected = counting.plain_answer(row, question)
                self.assertEqual(self.answer(row, question), expected)
                self.assertIs(question in row, expected is not None)
                self.assertEqual(self.answer(row.right_state, question), counting.right_state(row, question))

    def test_wide_questions(self):
        self.assertEqual(PARITY("1" * 200), "10" * 100)
        self.assertEqual(PARITY.right_state("1" * 199), 1)
        self.assertIs("1" * 200 in PARITY, True)
        self.assertIs("1" * 201 in PARITY, False)

    def test_the_empty_question(self):
        self.assertEqual((PARITY(""), PARITY.right_state(""), "" in PARITY), ("", 0, True))
        odd = Passes(1, 1, PARITY.rights, (1,), PARITY.lefts)
        self.assertEqual((odd(""), "" in odd, odd("1"), odd("11")), (None, False, "0", None))

    def test_empty_starts(self):
        none = Passes(2, 2, ((0,) * 4,), (), ((((3, 0),),) * 4,))
        for question in ("", "0", "3210", "3" * 200):
            self.assertIsNone(none(question))
            self.assertIs(question in none, False)

    def test_right_states_that_are_not_met(self):
        row = Passes(1, 1, ((0, 0), (2, 1), (0, 2)), (1, 2), ((((0, 0),) * 3,) * 2,))
        self.assertEqual([row(question) for question in ("", "0", "11")], [None] * 3)
        self.assertEqual(row.starts, (1, 2))

    def test_by_letters(self):
        for reads in (1, 2):
            for writes in (1, 2):
                letters = tuple([(3 - letter) % 2 ** writes for letter in range(2 ** reads)])
                row = self.answer(Passes.by_letters, reads, writes, letters)
                self.assertEqual((row.reads, row.writes, len(row.rights), len(row.lefts)), (reads, writes, 1, 1))
                for question in counting.questions_to(row, 3):
                    self.assertEqual(row(question), "".join([str(letters[int(letter)]) for letter in question]))

    def test_anything_can_be_looked_for(self):
        for value in strangers() + [10 ** 5000, "1" * 5000]:
            self.assertIs(value in PARITY, oracles.is_text(value, 2))

    def test_wrong_questions(self):
        for row in (PARITY, random_passes(1, 2, 1)):
            self.check_wrong(row, ("01",), (InvalidText, wrong_texts(2 ** row.reads)))
            self.check_wrong(row.right_state, ("01",), (InvalidText, wrong_texts(2 ** row.reads)))


class ValuesTest(Checked):

    def test_properties(self):
        for seed in range(12):
            row = random_passes(seed, 1 + seed % 2, 1 + seed // 2 % 2)
            self.assertEqual(Passes(*values_of(row)), row)
            self.assertEqual(len(row), len(row.rights) + len(row.lefts))
            self.assertIs(type(len(row)), int)
            self.assertEqual(str(row), "passes of {} right and {} left states".format(len(row.rights), len(row.lefts)))
            for name in NAMES:
                self.assertIsInstance(getattr(Passes, name), property)
                with self.assertRaises(AttributeError):
                    setattr(row, name, getattr(row, name))

    def test_equality(self):
        base = (1, 1, ((0, 0), (0, 1)), (0, 1), ((((0, 0),) * 2,) * 2,) * 2)
        others = [(1, 2) + base[2:], base[:2] + (((0, 0), (1, 1)),) + base[3:], base[:3] + ((0,), base[4]),
                  base[:4] + ((base[4][0],),), base[:4] + (((((1, 0),) * 2,) * 2,) * 2,)]
        self.assertEqual(Passes(*base), Passes(*base))
        self.assertIs(Passes(*base) != Passes(*base), False)
        for other in others:
            self.assertIs(Passes(*base) == Passes(*other), False)
            self.assertIs(Passes(*base) != Passes(*other), True)
        for value in strangers():
            self.assertIs(Passes(*base) == value, False)
            self.assertIs(Passes(*base) != value, True)
        # The same answers do not make plain rows equal.
        self.assertNotEqual(Passes.by_letters(1, 1, (0, 1)), Passes(1, 1, ((0, 0), (0, 0)), (0,),
                                                                    ((((0, 0), (0, 0)), ((1, 0), (1, 0))),)))

    def test_is_not_iterated_over(self):
        with self.assertRaises(TypeError):
            iter(PARITY)

    def test_sixty_states_of_each_side_and_one_more(self):
        for many in (60, 61):
            rights = tuple([((at + 1) % many,) * 2 for at in range(many)])
            lefts = tuple([(((0, (at + 1) % many),) * 2,) * 2 for at in range(many)])
            for value in ((1, 1, rights, tuple(range(many)), ((((0, 0),) * many,) * 2,)),
                          (1, 1, ((1, 1), (0, 0)), (0,), lefts)):
                if many == 60:
                    self.assertEqual(values_of(Passes(*value)), value)
                else:
                    self.assertRaisesThis(InvalidPasses, None, Passes, *value)
        whole = Passes(1, 1, tuple([((at + 1) % 60,) * 2 for at in range(60)]), (0,),
                       tuple([(((1, (at + 1) % 60),) * 60,) * 2 for at in range(60)]))
        self.assertEqual(len(whole), 120)
        self.assertEqual((whole("01" * 60), whole("01" * 59 + "0")), ("1" * 120, None))

    def test_wrong_values_in_one_place(self):
        wrong = 0
        base = values_of(PARITY)
        for at in range(5):
            for other in list(spoilt(base[at])) + strangers() + [10 ** 60, 3]:
                value = base[:at] + (other,) + base[at + 1:]
                if is_plain(value):
                    self.assertTrue(is_same(values_of(Passes(*value)), value))
                else:
                    wrong += 1
                    self.assertRaisesThis(InvalidPasses, None, Passes, *value)
        self.assertGreater(wrong, 500)

    def test_no_states(self):
        self.assertRaisesThis(InvalidPasses, None, Passes, 1, 1, (), (), (((), ()),))
        self.assertRaisesThis(InvalidPasses, None, Passes, 1, 1, ((0, 0),), (), ())
        self.assertRaisesThis(InvalidPasses, None, Passes, 1, 1, (), (), ())

    def test_wrong_values_in_two_places(self):
        base = values_of(PARITY)
        for first in range(5):
            for second in range(5):
                for one in strangers()[::4]:
                    for two in strangers()[::6]:
                        value = list(base)
                        value[first], value[second] = one, two
                        if not is_plain(value):
                            self.assertRaisesThis(InvalidPasses, None, Passes, *value)

    def test_wrong_letters(self):
        self.assertEqual(Passes.by_letters(1, 2, (3, 0))("01"), "30")
        for reads, writes, letters in ((1, 1, (0,)), (1, 1, (0, 1, 1)), (1, 1, (0, 2)), (1, 2, (0, 4)), (2, 1, (0, 1)),
                                       (1, 1, (0, -1)), (1, 1, (0, True)), (1, 1, (False, 0)), (1, 1, [0, 1]), (1, 1, "01"),
                                       (1, 1, None), (1, 1, (0, 10 ** 60)), (3, 1, (0,) * 8), (1, 3, (0, 1)),
                                       (0, 1, (0,)), (True, 1, (0, 1)), (1, True, (0, 1)), ("1", 1, (0, 1))):
            self.assertRaisesThis(InvalidPasses, None, Passes.by_letters, reads, writes, letters)
        for value in strangers():
            for at in range(3):
                given = [1, 1, (0, 1)]
                given[at] = value
                if not (at < 2 and type(value) is int and value == 1):
                    right = at == 1 and type(value) is int and value == 2
                    if not right:
                        self.assertRaisesThis(InvalidPasses, None, Passes.by_letters, *given)
