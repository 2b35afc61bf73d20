"""Tables of pairs, and what is decided of them."""
