"""Texts of rows, tables and books, and a shell."""
