"""Rimnotes: notes on the rim of a picture, each tied to its point."""
