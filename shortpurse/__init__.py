"""Shortpurse: what is left, divided among claims by rules."""
