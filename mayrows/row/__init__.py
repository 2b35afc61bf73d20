"""Mayrows, and the cells of which they can be made."""
