"""How many pairs a table has, and how many answers its questions have."""
