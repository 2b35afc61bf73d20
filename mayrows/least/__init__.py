"""The answers in their order, and the plain rows that have them."""
