"""Rows of cells with choices, decided for all widths."""
