"""Rows of which one cell has other choices."""
