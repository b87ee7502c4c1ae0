"""Points that numbers on ties make, and matrices that have them."""
