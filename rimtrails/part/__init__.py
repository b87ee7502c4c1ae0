"""Orders below orders, and parts of orders and of pairings."""
