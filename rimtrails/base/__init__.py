"""Words, numbers and discs, on which all other parts stand."""
