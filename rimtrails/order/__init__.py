"""Orders of rim places, and what tells them."""
