"""Leastreads: pieces, and the least reads that give back what is gone."""
