"""Pairings of discs, and the leanings that belong to them."""
