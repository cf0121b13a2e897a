"""A shelf of things with claims about them, and its log."""
