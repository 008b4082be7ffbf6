"""Withinall: the least table that no step leads out of."""
