"""Signs of two numbers at all places."""
