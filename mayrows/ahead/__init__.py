"""What can be answered before the whole question is known."""
