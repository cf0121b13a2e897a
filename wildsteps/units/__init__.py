"""Units, their powers, roots of one, exponentials and logarithms."""
