"""Norms of fields, and lots of numbers of finite index."""
