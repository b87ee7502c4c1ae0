"""Labels of regions, collections of them, and ways between thin discs."""
