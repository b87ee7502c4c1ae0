"""Discs from which nothing can go, and what tells them."""
