"""The names, arguments and constants of the interface, as far as they have landed."""

import importlib
import inspect
import unittest

FUNCTIONS = {
    "mayrows.base.texts": ("is_text(value, letters)", "texts_of(letters, width)", "comes_ahead(one, other)",
                           "line_of(text, line)", "text_of_lines(*lines)"),
    "mayrows.row.rows": (),
    "mayrows.row.cells": ("cell_row(reads, writes, lefts, rights, rule, *, outs=None)",),
    "mayrows.table.tables": (),
    "mayrows.table.within": ("is_within(table, other_table)", "parting(table, other_table)",
                             "within_paper(table, other_table)", "is_within_paper(table, other_table, value)"),
    "mayrows.table.calculus": ("turned(table)", "behind(table, other_table)", "left_rest(table, whole)",
                               "right_rest(table, whole)", "nothing(reads, writes)", "everything(reads, writes)",
                               "same(reads)", "letterwise(reads, writes, pairs)"),
    "mayrows.table.ends": ("useful_states(table)", "least_pair(table)", "set_behind(table, question)",
                           "has_answer(table, question)", "following_set(table, states, letter)", "unanswered(table)",
                           "end_paper(table)", "is_end_paper(table, value)"),
    "mayrows.count.counts": ("count_answers(table, question)", "count_pairs(table, width)", "pair_counts(table, width)",
                             "recurrence(table)", "is_recurrence(table, value)"),
    "mayrows.count.vectors": ("questions_with(table, number, width, *, at_least=False)",
                              "least_with(table, number, *, at_least=False)"),
    "mayrows.least.answers": ("answer_at(table, question, place)", "place_of(table, question, answer)",
                              "answers_from(table, question, place=0)"),
    "mayrows.least.passes": ("graph_of(passes)", "plain_row(table, place)", "pass_paper(passes, table)",
                             "is_pass_paper(passes, table, value)", "first_paper(passes, table)",
                             "is_first_paper(passes, table, value)"),
    "mayrows.least.unions": ("union_of(*rows)", "gap_of(passes)", "plain_rows(table, number, *, total=False)",
                             "is_union(table, value)", "union_paper(table, number)",
                             "is_union_paper(table, number, value)"),
    "mayrows.grow.growth": ("growth(table)", "most_answers(table)", "greatest(table, width)"),
    "mayrows.grow.papers": ("growth_paper(table)", "is_growth_paper(table, value)"),
    "mayrows.ahead.single": ("is_single(table)", "single_paper(table)", "is_single_paper(table, value)",
                             "least_ahead(table)", "ahead_paper(table)", "is_ahead_paper(table, value)",
                             "spoken(table, ahead, question)"),
    "mayrows.ahead.games": ("can_answer(table, ahead)", "game_paper(table, ahead)",
                            "is_game_paper(table, ahead, value)", "least_look(table)"),
    "mayrows.ahead.players": (),
    "mayrows.line.lines": ("tells(table, lines, line)", "told_lines(table, lines)", "keys(table)",
                           "least_parted(table, lines, line)", "line_paper(table, lines, line)",
                           "is_line_paper(table, lines, line, value)"),
    "mayrows.fault.faults": ("broken_answers(row, fault, question, place)", "places_shown(row, fault, question)",
                             "may_show(row, fault)", "surely_shows(row, fault)", "no_show_paper(row, fault)",
                             "is_no_show_paper(row, fault, value)", "no_sure_paper(row, fault)",
                             "is_no_sure_paper(row, fault, value)"),
    "mayrows.book.promises": ("is_name(value)", "is_promise(value)", "names_of(promise)", "does_fit(promise, rows)",
                              "does_hold(promise, rows)", "paper_against(promise, rows)",
                              "is_paper_against(promise, rows, value)"),
    "mayrows.book.books": (),
    "mayrows.text.formats": ("write_row(row)", "write_table(table)", "write_passes(passes)", "write_promise(promise)",
                             "write_book(book)", "read_row(text)", "read_table(text)", "read_passes(text)",
                             "read_promise(text)", "read_book(text)", "read_any(text)", "view(table)"),
    "mayrows.text.shell": (),
}
CONSTANTS = {
    "mayrows.base.texts": {"MAX_WIDTH": 200},
    "mayrows.row.rows": {"MAX_STATES": 6, "MAX_CHOICES": 576, "MAX_ANSWERS": 1000},
    "mayrows.table.tables": {"MAX_STATES": 60},
    "mayrows.table.ends": {"MAX_SETS": 2000},
    "mayrows.count.counts": {"MAX_USEFUL": 20, "MAX_TERMS": 200},
    "mayrows.count.vectors": {"MAX_NUMBER": 100, "MAX_VECTORS": 2000},
    "mayrows.least.passes": {"MAX_SIDE": 60, "MAX_PLACE": 3, "MAX_MET": 5000},
    "mayrows.least.unions": {"MOST_ROWS": 4, "MOST_MET": 2000},
    "mayrows.grow.growth": {"MAX_GROWN": 12},
    "mayrows.grow.papers": {"MAX_SHOWN": 9},
    "mayrows.ahead.single": {"MAX_USEFUL": 16},
    "mayrows.ahead.games": {"MAX_AHEAD": 3, "MAX_POSITIONS": 192},
    "mayrows.line.lines": {"MAX_USEFUL": 20},
    "mayrows.fault.faults": {"MAX_SETS": 2000},
    "mayrows.book.promises": {"MOST_ANSWERS": 99, "MAX_NAME": 8},
    "mayrows.book.books": {"MAX_NAMES": 12, "MAX_PROMISES": 16, "MAX_DEEDS": 40},
    "mayrows.text.shell": {"MAX_LINE": 3000, "MAX_TERM": 40, "MAX_NOTED": 40, "MAX_SHOWN": 3},
}
CLASSES = {
    ("mayrows.row.rows", "Mayrow(reads, writes, states, choices, lasts)"): (
        "answers(self, question)", "is_answer(self, question, answer)", "walks(self, question)",
        "also_with(self, *, choices=(), lasts=())"),
    ("mayrows.table.tables", "Table"): (
        "of(row)", "told(reads, writes, rows)", "pairs(self, width)", "as_row(self)"),
    ("mayrows.least.passes", "Passes(reads, writes, rights, starts, lefts)"): (
        "by_letters(reads, writes, letters)", "right_state(self, question)", "__call__(self, question)",
        "__contains__(self, value)", "__len__(self)", "__eq__(self, other)", "__str__(self)"),
    ("mayrows.ahead.players", "Player(table, ahead)"): (
        "ask(self, letter)", "end(self)", "twin(self)", "__call__(self, question)", "__len__(self)",
        "__eq__(self, other)", "__str__(self)"),
    ("mayrows.ahead.players", "Asker(table, ahead)"): ("ask(self)", "hear(self, said)", "__str__(self)"),
    ("mayrows.book.books", "Book()"): (
        "put(self, name, row)", "take_out(self, name)", "promise(self, promise)", "take_back(self, promise)",
        "do(self, deeds)", "lot(self)", "would(self, deeds)", "undo(self, many=1)", "at(self, version)",
        "follows(self, promise)", "table_of(self, name)", "__getitem__(self, name)", "__contains__(self, value)",
        "__iter__(self)", "__len__(self)", "__eq__(self, other)", "__str__(self)"),
    ("mayrows.book.books", "Lot"): (
        "put(self, name, row)", "take_out(self, name)", "promise(self, promise)", "take_back(self, promise)",
        "end(self)", "drop(self)", "__enter__(self)", "__exit__(self, kind, value, trace)"),
    ("mayrows.text.shell", "Shell(book=None)"): (
        "__call__(self, line)", "run_all(self, *lines)", "book(self)", "__len__(self)", "__str__(self)"),
}
GENERATORS = ("mayrows.base.texts.texts_of", "mayrows.count.counts.pair_counts", "mayrows.least.answers.answers_from",
              "mayrows.ahead.single.spoken", "mayrows.text.shell.Shell.run_all")


class InterfaceTest(unittest.TestCase):

    def test_functions(self):
        for module_name, told in FUNCTIONS.items():
            module = importlib.import_module(module_name)
            for line in told:
                function = getattr(module, line.partition("(")[0])
                self.assertEqual(function.__module__, module_name)
                self.assertEqual(function.__name__ + str(inspect.signature(function)), line)

    def test_constants(self):
        for module_name, told in CONSTANTS.items():
            for name, value in told.items():
                self.assertEqual(getattr(importlib.import_module(module_name), name), value)

    def test_classes(self):
        for (module_name, line), methods in CLASSES.items():
            owner = getattr(importlib.import_module(module_name), line.partition("(")[0])
            self.assertEqual(owner.__module__, module_name)
            if "(" in line:
                self.assertEqual(owner.__name__ + str(inspect.signature(owner)), line)
            for method in methods:
                name = method.partition("(")[0]
                self.assertIn(name, vars(owner))
                self.assertEqual(name + str(inspect.signature(getattr(owner, name))), method)

    def test_properties(self):
        for module_name, name, told in (
                ("mayrows.row.rows", "Mayrow", ("reads", "writes", "states", "choices", "lasts")),
                ("mayrows.table.tables", "Table", ("reads", "writes", "rows")),
                ("mayrows.least.passes", "Passes", ("reads", "writes", "rights", "starts", "lefts")),
                ("mayrows.ahead.players", "Player", ("table", "ahead", "question", "said", "is_over")),
                ("mayrows.ahead.players", "Asker", ("table", "ahead", "question", "said", "awaited", "is_over")),
                ("mayrows.book.books", "Book", ("names", "promises", "version", "touched", "judged")),
                ("mayrows.book.books", "Lot", ("is_open",)),
                ("mayrows.text.shell", "Shell", ("noted", "log"))):
            owner = getattr(importlib.import_module(module_name), name)
            for one in told:
                self.assertIsInstance(vars(owner)[one], property)

    def test_generators(self):
        for told in GENERATORS:
            module_name, *names = told.rsplit(".", 2 if "Shell" in told else 1)
            found = importlib.import_module(module_name)
            for name in names:
                found = getattr(found, name)
            self.assertTrue(inspect.isgeneratorfunction(found))

    def test_passes_has_a_class_method(self):
        owner = importlib.import_module("mayrows.least.passes").Passes
        self.assertIsInstance(vars(owner)["by_letters"], classmethod)

    def test_table_has_class_methods(self):
        owner = importlib.import_module("mayrows.table.tables").Table
        self.assertIsInstance(vars(owner)["of"], classmethod)
        self.assertIsInstance(vars(owner)["told"], classmethod)
