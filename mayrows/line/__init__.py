"""Which lines of a table tell which."""
