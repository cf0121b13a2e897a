"""Texts of values, and a shell over a shelf."""
