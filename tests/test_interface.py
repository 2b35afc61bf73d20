"""The names, arguments and constants of the interface, as far as they have landed."""

import importlib
import inspect
import unittest

FUNCTIONS = {
    "mayrows.base.texts": ("is_text(value, letters)", "texts_of(letters, width)", "comes_ahead(one, other)",
                           "line_of(text, line)", "text_of_lines(*lines)"),
    "mayrows.row.rows": (),
    "mayrows.row.cells": ("cell_row(reads, writes, lefts, rights, rule, *, outs=None)",),
    "mayrows.table.tables": (),
    "mayrows.table.within": ("is_within(table, other_table)", "parting(table, other_table)",
                             "within_paper(table, other_table)", "is_within_paper(table, other_table, value)"),
    "mayrows.table.calculus": ("turned(table)", "behind(table, other_table)", "left_rest(table, whole)",
                               "right_rest(table, whole)", "nothing(reads, writes)", "everything(reads, writes)",
                               "same(reads)", "letterwise(reads, writes, pairs)"),
    "mayrows.table.ends": ("useful_states(table)", "least_pair(table)", "set_behind(table, question)",
                           "has_answer(table, question)", "following_set(table, states, letter)", "unanswered(table)",
                           "end_paper(table)", "is_end_paper(table, value)"),
}
CONSTANTS = {
    "mayrows.base.texts": {"MAX_WIDTH": 200},
    "mayrows.row.rows": {"MAX_STATES": 6, "MAX_CHOICES": 576, "MAX_ANSWERS": 1000},
    "mayrows.table.tables": {"MAX_STATES": 60},
    "mayrows.table.ends": {"MAX_SETS": 2000},
}
CLASSES = {
    ("mayrows.row.rows", "Mayrow(reads, writes, states, choices, lasts)"): (
        "answers(self, question)", "is_answer(self, question, answer)", "walks(self, question)",
        "also_with(self, *, choices=(), lasts=())"),
    ("mayrows.table.tables", "Table"): (
        "of(row)", "told(reads, writes, rows)", "pairs(self, width)", "as_row(self)"),
}


class InterfaceTest(unittest.TestCase):

    def test_functions(self):
        for module_name, told in FUNCTIONS.items():
            module = importlib.import_module(module_name)
            for line in told:
                function = getattr(module, line.partition("(")[0])
                self.assertEqual(function.__module__, module_name)
                self.assertEqual(function.__name__ + str(inspect.signature(function)), line)

    def test_constants(self):
        for module_name, told in CONSTANTS.items():
            for name, value in told.items():
                self.assertEqual(getattr(importlib.import_module(module_name), name), value)

    def test_classes(self):
        for (module_name, line), methods in CLASSES.items():
            owner = getattr(importlib.import_module(module_name), line.partition("(")[0])
            self.assertEqual(owner.__module__, module_name)
            if "(" in line:
                self.assertEqual(owner.__name__ + str(inspect.signature(owner)), line)
            for method in methods:
                name = method.partition("(")[0]
                self.assertIn(name, vars(owner))
                self.assertEqual(name + str(inspect.signature(getattr(owner, name))), method)

    def test_table_has_class_methods(self):
        owner = importlib.import_module("mayrows.table.tables").Table
        self.assertIsInstance(vars(owner)["of"], classmethod)
        self.assertIsInstance(vars(owner)["told"], classmethod)
