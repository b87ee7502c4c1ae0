"""Discs that are built from dead ends and bridges."""
