"""A bench, on which a disc and its numbers are changed."""
