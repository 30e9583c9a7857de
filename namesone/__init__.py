"""Namesone: names that are one, and trees that keep them."""
