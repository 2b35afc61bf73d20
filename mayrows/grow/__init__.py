"""How the number of answers grows."""
