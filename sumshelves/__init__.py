"""Sumshelves: which rates of asks a store of copies and sums bears."""
