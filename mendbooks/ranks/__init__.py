"""What exists at the ranks of a scheme, and how many and how high its trees are."""
