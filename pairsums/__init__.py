"""Pairsums: data each of which stands in two sums, and what comes back when cells are lost."""
