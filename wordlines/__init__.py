"""Wordlines: words gathered by villages, with lines between them."""
