"""Rimtrails: one order on the rim of a disc."""
