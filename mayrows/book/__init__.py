"""Promises about named rows, and books that keep them."""
