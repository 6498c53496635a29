"""Bitlead: bits of a word led to other places, by rows of deeds and by halves."""
